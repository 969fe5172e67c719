package word

import (
	"bytes"

	"wharfinger/api"
	"wharfinger/auth"
	"wharfinger/block"
	"wharfinger/code"
	"wharfinger/delta"
	"wharfinger/frame"
	"wharfinger/patch"
)

// Read: the word of a frame.
func Read(f frame.Frame) (Word, error) {
	s, known := shapeOf(f.Kind)
	switch {
	case !known:
		return Word{}, api.ErrKind
	case f.Stream != 0:
		return Word{}, api.ErrRange
	}
	r := code.Read(f.Data)
	w := Word{Kind: f.Kind}
	if s.has(numField) {
		w.Num = r.Num()
	}
	if s.has(nameField) {
		w.Name = string(r.Text())
	}
	if s.has(sumField) {
		w.Sum = r.Sum()
	}
	if s.has(nonceField) {
		w.Nonce = readNonce(r)
	}
	rest := func() []byte { return f.Data[r.At():] }
	if err := w.readLast(s, r, rest); err != nil {
		return Word{}, err
	}
	return w, nil
}

// readLast: the field that may be of any length, if the kind has one; nothing may be left behind it. What rest answers are the frame's own bytes.
func (w *Word) readLast(s shape, r *code.Reader, rest func() []byte) error {
	err := r.Err()
	if err != nil {
		return err
	}
	switch {
	case s.has(pathsField):
		w.Paths, err = readPaths(r)
	case s.has(dataField):
		w.Data = bytes.Clone(rest())
	case s.has(sumsField):
		w.Sums, err = block.Read(rest())
	case s.has(toldField):
		w.Told, err = readTold(r, rest)
	default:
		err = r.End()
	}
	return err
}

func readNonce(r *code.Reader) auth.Nonce {
	var n auth.Nonce
	for i := range n {
		n[i] = r.Byte()
	}
	return n
}

func readPaths(r *code.Reader) ([]string, error) {
	count := r.Num()
	if count > MaxPaths {
		return nil, api.ErrLong
	}
	var list []string
	for range count {
		list = append(list, string(r.Text()))
	}
	return list, r.End()
}

// readTold: that Cut or Sum aren't there is told ahead of what Cut is.
func readTold(r *code.Reader, rest func() []byte) (patch.Told, error) {
	var t patch.Told
	t.Cut = r.Num()
	t.Sum = r.Sum()
	err := r.Err()
	switch {
	case err != nil:
		return patch.Told{}, err
	case t.Cut > maxCut:
		return patch.Told{}, api.ErrRange
	}
	t.Tokens, err = delta.Read(rest())
	return t, err
}
