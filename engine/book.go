package engine

import (
	"crib/api"
	"crib/block"
)

// book holds plans by the words of their blocks: each block once, in the order in which they first came. An empty one is ready for use.
type book struct {
	places map[block.Words]int // where in list they stand
	list   []api.Known
}

// bookOf gives the book of a list, in which the last plan of a block is the one that counts.
func bookOf(list []api.Known) book {
	var b book
	for _, k := range list {
		if w, ok := block.Read(k.Words); ok {
			b.lay(w, k.Plan)
		}
	}
	return b
}

// lay puts a plan in the place of the one for the same words, or behind all others.
func (b *book) lay(w block.Words, plan string) {
	if b.places == nil {
		b.places = map[block.Words]int{}
	}
	at, ok := b.places[w]
	if !ok {
		at = len(b.list)
		b.places[w] = at
		b.list = append(b.list, api.Known{Words: w.Text()})
	}
	b.list[at].Plan = plan
}

// find gives the plan for a block, if there is one.
func (b *book) find(w block.Words) (string, bool) {
	at, ok := b.places[w]
	if !ok {
		return "", false
	}
	return b.list[at].Plan, true
}
