package moves

import "slices"

// circles counts the circles of two places and more. Where no place is written twice, no two of them have a place in common. Where one is, they may cross, in more ways than can be gone through: then all places that lead round to one another count as one circle.
func circles(l []Move) int {
	gets, gives := ways(l)
	seen := make([]bool, len(gets))
	var order []int
	for place := range gets {
		order = append(order, walk(gets, seen, place)...)
	}
	clear(seen)
	count := 0
	for _, place := range slices.Backward(order) {
		if len(walk(gives, seen, place)) > 1 { // whoever is come to both ways stands in one circle
			count++
		}
	}
	return count
}

// ways numbers the places of l in the order in which they come, and tells for each of them from which ones it gets something, and to which ones it gives.
func ways(l []Move) (gets, gives [][]int) {
	numbers := map[int]int{}
	number := func(place int) int {
		n, is := numbers[place]
		if !is {
			n = len(numbers)
			numbers[place] = n
			gets, gives = append(gets, nil), append(gives, nil)
		}
		return n
	}
	for _, m := range l {
		to, from := number(m.To), number(m.From)
		gets[to] = append(gets[to], from)
		gives[from] = append(gives[from], to)
	}
	return gets, gives
}

// walk tells all places that are come to from one by way of such as are not seen yet, each behind those that were come to from it. No way is walked twice: it is taken out.
func walk(to [][]int, seen []bool, first int) []int {
	if seen[first] {
		return nil
	}
	seen[first] = true
	path := []int{first}
	var done []int
	for len(path) > 0 {
		at := path[len(path)-1]
		if len(to[at]) == 0 {
			done = append(done, at)
			path = path[:len(path)-1]
			continue
		}
		next := to[at][0]
		to[at] = to[at][1:]
		if !seen[next] {
			seen[next] = true
			path = append(path, next)
		}
	}
	return done
}
