package moves

// waiting holds moves that are not made yet; those of a place to itself are none.
type waiting struct {
	from    map[int]int // of each place that is still to be written: what it gets
	readers map[int]int // of each place: how many are still to get it
	places  []int       // those that are to be written, in the order of the list; some of them may be written already
	free    []int       // those that are still to be written, and that nobody reads any more
}

func waitingOf(l []Move) *waiting {
	w := &waiting{from: map[int]int{}, readers: map[int]int{}}
	for _, m := range l {
		if m.To != m.From {
			w.from[m.To] = m.From
			w.readers[m.From]++
			w.places = append(w.places, m.To)
		}
	}
	for _, place := range w.places {
		if w.readers[place] == 0 {
			w.free = append(w.free, place)
		}
	}
	return w
}

// waits tells whether place is still to be written.
func (w *waiting) waits(place int) bool {
	_, is := w.from[place]
	return is
}

// some tells whether there is a move that can be made.
func (w *waiting) some() bool { return len(w.free) > 0 }

// take is the next move that can be made; it waits no more.
func (w *waiting) take() Move {
	to := w.free[0]
	w.free = w.free[1:]
	from := w.from[to]
	delete(w.from, to)
	w.readers[from]--
	if w.readers[from] == 0 && w.waits(from) {
		w.free = append(w.free, from)
	}
	return Move{To: to, From: from}
}

// open frees the first place that is still to be written, though another one is still to get what it has; false, if there is none.
func (w *waiting) open() (int, bool) {
	for k, place := range w.places {
		if w.waits(place) {
			w.places = w.places[k+1:]
			w.free = append(w.free, place)
			return place, true
		}
	}
	return 0, false
}
