package word

import (
	"wharfinger/api"
	"wharfinger/auth"
)

// shape is some of a word's fields, each a bit.
type shape int

// The fields, in the order in which they are written.
const (
	numField shape = 1 << iota
	nameField
	pathsField
	sumField
	nonceField
	dataField
	sumsField
	toldField
)

// shapeOf: which fields a kind has; false: it is none.
func shapeOf(kind int) (shape, bool) {
	var s shape
	switch kind {
	case Hello:
		s = numField
		fallthrough
	case Pull:
		s |= nameField
	case Proof:
		s = nameField | sumField
	case List:
		s = numField
		fallthrough
	case Push:
		s |= pathsField
	case Greet:
		s = numField | nonceField
	case Full, File:
		s = numField | dataField
	case Want, Sums:
		s = numField | sumsField
	case Tell, Gift:
		s = numField | toldField
	case Gone, Again, Redo, Commit, Fail:
		s = numField
	case End, Bye, Grant, Closed: // these say enough by their kind
	default:
		return 0, false
	}
	return s, true
}

// has: is a field among these?
func (s shape) has(field shape) bool { return s&field != 0 }

// filled: which of a word's fields aren't zero; one that has parts isn't, if one of these isn't.
func (w Word) filled() shape {
	var s shape
	look := func(field shape, isFilled bool) {
		if isFilled {
			s |= field
		}
	}
	look(numField, w.Num != 0)
	look(nameField, w.Name != "")
	look(pathsField, len(w.Paths) > 0)
	look(sumField, w.Sum != api.Sum{})
	look(nonceField, w.Nonce != auth.Nonce{})
	look(dataField, len(w.Data) > 0)
	look(sumsField, w.Sums.Size != 0 || w.Sums.Cut != 0 || w.Sums.Length != 0 || len(w.Sums.Blocks) > 0)
	look(toldField, w.Told.Cut != 0 || w.Told.Sum != api.Sum{} || len(w.Told.Tokens) > 0)
	return s
}
