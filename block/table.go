package block

import (
	"wharfinger/api"
	"wharfinger/sum"
)

// Table finds blocks by their sums.
type Table struct {
	cut    int
	places map[uint32][]place // by their weak sums, from the first block on
}

// place is a block: which one it is, and how many bytes it has.
type place struct {
	index, size int
	block       Block
}

// Index: a table of a file's blocks.
func (s Signature) Index() *Table {
	t := &Table{cut: s.Cut, places: map[uint32][]place{}}
	if s.Check() != api.OK {
		return t // in which nothing is found
	}
	for i, b := range s.Blocks {
		_, n := s.span(i)
		t.places[b.Weak] = append(t.places[b.Weak], place{index: i, size: n, block: b})
	}
	return t
}

// Find: the first block that has the sums of some bytes, and as many of them; w is their weak sum.
func (t *Table) Find(w uint32, b []byte) (int, bool) {
	places := t.places[w]
	if len(places) == 0 {
		return 0, false // most windows end here, without a strong sum, which takes long
	}
	want := Block{Weak: w, Strong: sum.Cut(t.cut, b)}
	for _, p := range places {
		if p.size == len(b) && p.block == want {
			return p.index, true
		}
	}
	return 0, false
}
