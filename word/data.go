package word

import (
	"wharfinger/api"
	"wharfinger/code"
	"wharfinger/delta"
	"wharfinger/patch"
)

// maxCut is how many bytes of a sum count at most: all that it has.
const maxCut = len(api.Sum{})

// data: these fields of a word as bytes, one behind the other.
func (w Word) data(s shape) ([]byte, api.Errno) {
	var out []byte
	if s.has(numField) {
		out = code.Num(out, w.Num)
	}
	if s.has(nameField) {
		out = code.Text(out, []byte(w.Name))
	}
	if s.has(sumField) {
		out = append(out, w.Sum[:]...)
	}
	if s.has(nonceField) {
		out = append(out, w.Nonce[:]...)
	}
	last, e := w.last(s)
	if e != api.OK {
		return nil, e
	}
	return append(out, last...), api.OK
}

// last: as bytes, the field that may be of any length; a kind has at most one, behind its others.
func (w Word) last(s shape) ([]byte, api.Errno) {
	switch {
	case s.has(pathsField):
		return pathsData(w.Paths)
	case s.has(dataField):
		return w.Data, api.OK
	case s.has(sumsField):
		return w.Sums.Bytes()
	case s.has(toldField):
		return toldData(w.Told)
	}
	return nil, api.OK
}

// pathsData: paths as bytes: how many they are, and each.
func pathsData(paths []string) ([]byte, api.Errno) {
	out := code.Num(nil, len(paths))
	for _, p := range paths {
		if len(p) > code.MaxText {
			return nil, api.ErrLong
		}
		out = code.Text(out, []byte(p))
	}
	return out, api.OK
}

// toldData: a file as it is told, as bytes.
func toldData(t patch.Told) ([]byte, api.Errno) {
	if t.Cut < 0 || t.Cut > maxCut {
		return nil, api.ErrRange
	}
	tokens, e := delta.Bytes(t.Tokens)
	if e != api.OK {
		return nil, e
	}
	out := code.Num(nil, t.Cut)
	out = append(out, t.Sum[:]...)
	return append(out, tokens...), api.OK
}
