package delta

import (
	"wharfinger/api"
	"wharfinger/code"
)

// isBlocks: is it some blocks, and nothing else?
func (t Token) isBlocks() bool {
	return t.Count >= 1 && t.Count <= code.MaxNum && t.First >= 0 && t.First <= code.MaxNum && len(t.Data) == 0
}

// isBytes: is it some bytes, and nothing else?
func (t Token) isBytes() bool { return t.First == 0 && t.Count == 0 && len(t.Data) > 0 }

// Bytes: tokens as bytes.
func Bytes(list []Token) ([]byte, api.Errno) {
	if len(list) > MaxTokens {
		return nil, api.ErrLong
	}
	for _, t := range list {
		if !t.isBlocks() && !t.isBytes() {
			return nil, api.ErrToken
		}
	}
	out := code.Num(nil, len(list))
	for _, t := range list {
		out = code.Num(out, t.Count)
		if t.isBlocks() {
			out = code.Num(out, t.First)
		} else {
			out = code.Num(out, len(t.Data))
			out = append(out, t.Data...)
		}
	}
	return out, api.OK
}

// Read: the tokens of some bytes.
func Read(b []byte) ([]Token, error) {
	r := code.Read(b)
	count := r.Num()
	if err := r.Err(); err != nil {
		return nil, err
	}
	if count > MaxTokens {
		return nil, &api.Fault{At: 0, Err: api.ErrLong}
	}
	var list []Token
	for range count {
		next, err := readToken(r, len(b))
		if err != nil {
			return nil, err
		}
		list = append(list, next)
	}
	if err := r.End(); err != nil {
		return nil, err
	}
	return list, nil
}

// readToken: the next token of bytes that end at this place.
func readToken(r *code.Reader, end int) (Token, error) {
	at := r.At()
	count := r.Num()
	number := r.Num() // of the first block, or how many bytes there are
	switch err := r.Err(); {
	case err != nil:
		return Token{}, err
	case count > 0:
		return Token{First: number, Count: count}, nil
	case number == 0:
		return Token{}, &api.Fault{At: at, Err: api.ErrToken}
	case number > end-r.At(): // looked at ahead of making room for them
		return Token{}, &api.Fault{At: end, Err: api.ErrShort}
	}
	data := make([]byte, number)
	for i := range data {
		data[i] = r.Byte()
	}
	return Token{Data: data}, nil
}
