package fold

import (
	"ratline/api"
	"ratline/val"
)

// entry is a Cell as the analysis has it where it has come to: there no Cell is a KTop. A value is told by its number in a book, in which it stands once: so two are the Same just if they are one number, however great the values are. Ways meet far more often than values are made.
type entry int

const (
	none     entry = iota // no entry
	anything              // a KAny
	first                 // the book's first value
)

// isValue tells whether e is a KConst.
func (e entry) isValue() bool {
	return e >= first
}

// book has values, each once.
type book struct {
	values []api.Value
	shown  map[string]entry // by what Show tells, which is another text of each value
}

func newBook() book {
	return book{shown: map[string]entry{}}
}

// enter is the entry of c.
func (b *book) enter(c Cell) entry {
	if c.Kind != api.KConst {
		return anything
	}
	s := val.Show(c.V)
	e, is := b.shown[s]
	if !is {
		e = first + entry(len(b.values))
		b.shown[s] = e
		b.values = append(b.values, c.V)
	}
	return e
}

// cell is the Cell of e. Its value is in the memory in which it was entered.
func (b *book) cell(e entry) Cell {
	if !e.isValue() {
		return Cell{Kind: api.KAny}
	}
	return Cell{Kind: api.KConst, V: b.values[e-first]}
}
