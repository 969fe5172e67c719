package word_test

import (
	"bytes"
	"reflect"
	"slices"
	"strings"

	"wharfinger/api"
	"wharfinger/block"
	"wharfinger/code"
	"wharfinger/delta"
	"wharfinger/frame"
	"wharfinger/probe"
	"wharfinger/word"
)

// fieldsOf: the fields that a kind has, in their order, as the document lists them; false: it is none.
func fieldsOf(kind int) ([]string, bool) {
	list := []string{
		"", "Num Name", "Name Sum", "Paths", "Num Told", "Num Data", "Num", "Name", "Num Sums", "Num", "", "",
		"Num Nonce", "", "Num Sums", "Num", "Num Paths", "Num Told", "Num Data", "Num", "", "Num",
	}
	if kind < 1 || kind >= len(list) {
		return nil, false
	}
	return strings.Fields(list[kind]), true
}

// num: a number as bytes.
func num(n int) []byte { return probe.Nums(uint64(n)) }

// text: a text as bytes.
func text(s string) []byte { return slices.Concat(num(len(s)), []byte(s)) }

// fieldAs: a field of a word as the document words it; the word can be a frame.
func fieldAs(w word.Word, field string) []byte {
	switch field {
	case "Num":
		return num(w.Num)
	case "Name":
		return text(w.Name)
	case "Paths":
		b := num(len(w.Paths))
		for _, p := range w.Paths {
			b = append(b, text(p)...)
		}
		return b
	case "Sum":
		return w.Sum[:]
	case "Nonce":
		return w.Nonce[:]
	case "Data":
		return w.Data
	case "Sums":
		b, _ := w.Sums.Bytes()
		return b
	case "Told":
		tokens, _ := delta.Bytes(w.Told.Tokens)
		return slices.Concat(num(w.Told.Cut), w.Told.Sum[:], tokens)
	}
	panic(field)
}

// frameAs: a word, which can be one, as a frame.
func frameAs(w word.Word) frame.Frame {
	f := frame.Frame{Kind: w.Kind}
	fields, _ := fieldsOf(w.Kind)
	for _, field := range fields {
		f.Data = append(f.Data, fieldAs(w, field)...)
	}
	return f
}

// whyNot: why a word has no frame as the document words it; OK: it has.
func whyNot(w word.Word) api.Errno {
	fields, known := fieldsOf(w.Kind)
	if !known {
		return api.ErrKind
	}
	if !isZero(without(w, fields)) {
		return api.ErrForm
	}
	if w.Num < 0 || w.Num > 1<<40 {
		return api.ErrRange
	}
	if len(w.Name) > 4096 || len(w.Paths) > 64 {
		return api.ErrLong
	}
	for _, p := range w.Paths {
		if len(p) > 4096 {
			return api.ErrLong
		}
	}
	if slices.Contains(fields, "Sums") && w.Sums.Check() != api.OK {
		return w.Sums.Check()
	}
	if w.Told.Cut < 0 || w.Told.Cut > 32 {
		return api.ErrRange
	}
	if _, e := delta.Bytes(w.Told.Tokens); e != api.OK {
		return e
	}
	if len(frameAs(w).Data) > 16384 {
		return api.ErrLong
	}
	return api.OK
}

// without: a word without its kind and these fields.
func without(w word.Word, fields []string) word.Word {
	w = plain(w)
	v := reflect.ValueOf(&w).Elem()
	for _, field := range append([]string{"Kind"}, fields...) {
		v.FieldByName(field).SetZero()
	}
	return w
}

// readAs: the word of a frame as the document words it.
func readAs(f frame.Frame) (word.Word, api.Errno) {
	fields, known := fieldsOf(f.Kind)
	if !known {
		return word.Word{}, api.ErrKind
	}
	if f.Stream != 0 {
		return word.Word{}, api.ErrRange
	}
	w := word.Word{Kind: f.Kind}
	left := f.Data
	for _, field := range fields {
		size, e := readField(&w, field, left)
		if e != api.OK {
			return word.Word{}, e
		}
		left = left[size:]
	}
	if len(left) > 0 {
		return word.Word{}, api.ErrForm
	}
	return w, api.OK
}

// readField reads one field of a word, and answers how many bytes it has.
func readField(w *word.Word, field string, b []byte) (int, api.Errno) {
	r := code.Read(b)
	var err error
	switch field {
	case "Num":
		w.Num = r.Num()
	case "Name":
		w.Name = string(r.Text())
	case "Paths":
		n := r.Num()
		if r.Err() == nil && n > 64 {
			return 0, api.ErrLong
		}
		for len(w.Paths) < n && r.Err() == nil {
			w.Paths = append(w.Paths, string(r.Text()))
		}
	case "Sum":
		w.Sum = r.Sum()
	case "Nonce":
		if len(b) < 16 {
			return 0, api.ErrShort
		}
		return copy(w.Nonce[:], b), api.OK
	case "Data":
		w.Data = bytes.Clone(b)
		return len(b), api.OK
	case "Sums":
		w.Sums, err = block.Read(b)
		return len(b), code.Number(err)
	case "Told":
		w.Told.Cut, w.Told.Sum = r.Num(), r.Sum()
		if e := code.Number(r.Err()); e != api.OK {
			return 0, e
		}
		if w.Told.Cut > 32 {
			return 0, api.ErrRange
		}
		w.Told.Tokens, err = delta.Read(b[r.At():])
		return len(b), code.Number(err)
	}
	return r.At(), code.Number(r.Err())
}

// plain: a word in memory of its own, all of whose empty lists are nil.
func plain(w word.Word) word.Word {
	w.Paths = slices.Clone(w.Paths)
	w.Data = bytes.Clone(w.Data)
	w.Sums.Blocks = slices.Clone(w.Sums.Blocks)
	w.Told.Tokens = probe.CloneTokens(w.Told.Tokens)
	if len(w.Paths) == 0 {
		w.Paths = nil
	}
	if len(w.Data) == 0 {
		w.Data = nil
	}
	if len(w.Sums.Blocks) == 0 {
		w.Sums.Blocks = nil
	}
	if len(w.Told.Tokens) == 0 {
		w.Told.Tokens = nil
	}
	for i := range w.Told.Tokens {
		if len(w.Told.Tokens[i].Data) == 0 {
			w.Told.Tokens[i].Data = nil
		}
	}
	return w
}

// same: are two words one, lists that are nil and empty ones being the same?
func same(w, x word.Word) bool { return reflect.DeepEqual(plain(w), plain(x)) }

// isZero: is nothing of a word there?
func isZero(w word.Word) bool { return reflect.DeepEqual(w, word.Word{}) }
