package patch_test

import (
	"bytes"
	"math"
	"testing"

	"wharfinger/api"
	"wharfinger/block"
	"wharfinger/delta"
	"wharfinger/patch"
	"wharfinger/probe"
	"wharfinger/sum"
)

// The calls keep the document's signatures, the limit its value.
var (
	_ func(block.Signature, []byte, int) (patch.Told, api.Errno)         = patch.Tell
	_ func([]byte, int, []delta.Token) ([]byte, error)                   = patch.Join
	_ func(patch.Told, []byte, int) ([]byte, error)                      = patch.Told.Apply
	_ func(old, data []byte, size, cut, w int) ([]byte, bool, api.Errno) = patch.Send
	_ [65536]struct{}                                                    = [patch.MaxFile]struct{}{}
)

// sameTold: are two one, lists that are nil and empty ones being the same?
func sameTold(t, u patch.Told) bool {
	return t.Cut == u.Cut && t.Sum == u.Sum && probe.SameTokens(t.Tokens, u.Tokens)
}

// cuts: how many bytes of a sum count, among them what can't be.
func cuts() []int { return []int{0, 1, 31, 32, 33, -1, math.MinInt, math.MaxInt} }

// P8.1: a file told, its tokens written out; cut is told as it is.
func TestTell(t *testing.T) {
	s := probe.Sums([]byte("abcdefg"), 2, 32)
	for _, c := range []struct {
		data string
		want []delta.Token
	}{
		{"xcdefabyg", []delta.Token{probe.Text("x"), probe.Blocks(1, 2), probe.Blocks(0, 1), probe.Text("y"), probe.Blocks(3, 1)}},
		{"abcdefg", []delta.Token{probe.Blocks(0, 4)}},
		{"xyz", []delta.Token{probe.Text("xyz")}},
		{"", nil},
	} {
		for _, cut := range cuts() {
			want := patch.Told{Tokens: c.want, Cut: cut, Sum: sum.Cut(cut, []byte(c.data))}
			if told, e := patch.Tell(s, []byte(c.data), cut); e != api.OK || !sameTold(told, want) {
				t.Errorf("%q, cut %d: %v, %d", c.data, cut, told, e)
			}
		}
	}
}

// P8.1: the errors, in the document's order, and what just isn't one.
func TestTellWrong(t *testing.T) {
	one := probe.Sums([]byte("a"), 1, 4)
	for _, c := range []struct {
		name string
		s    block.Signature
		data []byte
		want api.Errno
	}{
		{"as long as can be", one, make([]byte, 65536), api.OK},
		{"a byte too long", one, make([]byte, 65537), api.ErrLong},
		{"a byte too long, by sums that can't be", block.Signature{}, make([]byte, 65537), api.ErrLong},
		{"as long as can be, by sums that can't be", block.Signature{}, make([]byte, 65536), api.ErrRange},
		{"sums with too many blocks", block.Signature{Size: 1, Length: 4097}, nil, api.ErrLong},
		{"sums without their block", block.Signature{Size: 1, Length: 1}, nil, api.ErrForm},
		{"as many tokens as can be", one, bytes.Repeat([]byte("a"), 8192), api.OK},
		{"one token too many", one, bytes.Repeat([]byte("a"), 8193), api.ErrLong},
	} {
		told, e := patch.Tell(c.s, c.data, 32)
		if e != c.want {
			t.Errorf("%s: %d, not %d", c.name, e, c.want)
		}
		if e != api.OK && !sameTold(told, patch.Told{}) {
			t.Errorf("%s: something is told beside an error", c.name)
		}
	}
}

// P8.4: what comes is the file; whether it was told twice hangs on how much counts.
func TestSend(t *testing.T) {
	for _, c := range []struct {
		name, old, data  string
		size, cut, whole int
		want             string
		twice            bool
	}{
		{"the document's example", "abcd", "xcd", 2, 4, 32, "xcd", false},
		{"the same", "abcdefg", "abcdefg", 2, 32, 32, "abcdefg", false},
		{"to one who has nothing", "", "abc", 2, 4, 32, "abc", false},
		{"nothing", "abc", "", 2, 4, 32, "", false},
		{"blocks that look alike, and a sum that tells", "\x01\x03\x01", "\x02\x01\x02", 3, 0, 32, "\x02\x01\x02", true},
		{"one byte of it tells", "\x01\x03\x01", "\x02\x01\x02", 3, 0, 1, "\x02\x01\x02", true},
		{"more than all of it tells", "\x01\x03\x01", "\x02\x01\x02", 3, 0, math.MaxInt, "\x02\x01\x02", true},
		{"nothing of it counts", "\x01\x03\x01", "\x02\x01\x02", 3, 0, 0, "\x01\x03\x01", false},
		{"less than nothing of it counts", "\x01\x03\x01", "\x02\x01\x02", 3, 0, math.MinInt, "\x01\x03\x01", false},
		{"a byte of the blocks' sums counts", "\x01\x03\x01", "\x02\x01\x02", 3, 1, 32, "\x02\x01\x02", false},
		{"nothing counts, and no block looks alike", "abc", "xyz", 3, 0, 0, "xyz", false},
	} {
		out, twice, e := patch.Send([]byte(c.old), []byte(c.data), c.size, c.cut, c.whole)
		if e != api.OK || string(out) != c.want || twice != c.twice {
			t.Errorf("%s: %q, %v, %d", c.name, out, twice, e)
		}
	}
}

// P8.4: the errors, in the document's order, and what just isn't one.
func TestSendWrong(t *testing.T) {
	for _, c := range []struct {
		name      string
		old, data []byte
		size, cut int
		want      api.Errno
	}{
		{"no size", nil, nil, 0, 4, api.ErrRange},
		{"a size too great", nil, nil, 4097, 4, api.ErrRange},
		{"a cut below 0", nil, nil, 2, -1, api.ErrRange},
		{"a cut too great", nil, nil, 2, 33, api.ErrRange},
		{"a cut too great, and a file too long", nil, make([]byte, 65537), 2, 33, api.ErrRange},
		{"too many blocks", make([]byte, 4097), nil, 1, 4, api.ErrLong},
		{"as many as can be", make([]byte, 4096), nil, 1, 4, api.OK},
		{"a file as long as can be", nil, make([]byte, 65536), 2, 4, api.OK},
		{"a file too long", nil, make([]byte, 65537), 2, 4, api.ErrLong},
		{"a longer one to come from", make([]byte, 1<<20), make([]byte, 65536), 4096, 4, api.OK},
		{"too many tokens", []byte("a"), bytes.Repeat([]byte("a"), 8193), 1, 4, api.ErrLong},
		{"as many tokens as can be", []byte("a"), bytes.Repeat([]byte("a"), 8192), 1, 4, api.OK},
	} {
		out, twice, e := patch.Send(c.old, c.data, c.size, c.cut, 32)
		if e != c.want || twice || e != api.OK && len(out) > 0 || e == api.OK && !bytes.Equal(out, c.data) {
			t.Errorf("%s: %d bytes, %v, %d, not %d", c.name, len(out), twice, e, c.want)
		}
	}
}

// P8.4: with all of its sum every short file comes to one who has any other, and twice just if what its tokens make is another one.
func TestSendEveryShortFile(t *testing.T) {
	signs := []byte{0, 1, 2, 4}
	for old := range probe.Rows(signs, 3) {
		for data := range probe.Rows(signs, 4) {
			for size := 1; size <= 3; size++ {
				_, want, _ := sendAs(old, data, size, 0, 32)
				out, twice, e := patch.Send(old, data, size, 0, 32)
				if e != api.OK || !bytes.Equal(out, data) || twice != want {
					t.Fatalf("from %x to %x, blocks of %d: %x, %v, %d", old, data, size, out, twice, e)
				}
			}
		}
	}
}

// sendAs sends as the document words it.
func sendAs(old, data []byte, size, cut, whole int) ([]byte, bool, api.Errno) {
	s, e := block.Make(old, size, cut)
	if e != api.OK {
		return nil, false, e
	}
	if len(data) > 65536 {
		return nil, false, api.ErrLong
	}
	list, e := delta.Make(s, data)
	if e != api.OK {
		return nil, false, e
	}
	if made, _ := joinAs(old, size, list); sum.Cut(whole, made) == sum.Cut(whole, data) {
		return made, false, api.OK
	}
	return data, true, api.OK
}

// P1, P8.4: any file to any other.
func FuzzSend(f *testing.F) {
	f.Add([]byte("abcdefg"), []byte("gxabcd"), 2, 1, 32)
	f.Add([]byte("\x01\x03\x01"), []byte("\x02\x01\x02"), 3, 0, 32)
	f.Add([]byte("\x01\x03\x01"), []byte("\x02\x01\x02"), 3, 0, 0)
	f.Add([]byte("a"), bytes.Repeat([]byte("a"), 9000), 1, 0, 1)
	f.Add([]byte("a"), make([]byte, 65537), math.MaxInt, math.MinInt, math.MaxInt)
	f.Add([]byte("a"), make([]byte, 65537), 1, 0, 32)
	f.Fuzz(func(t *testing.T, old, data []byte, size, cut, whole int) {
		want, wantTwice, errno := sendAs(old, data, size, cut, whole)
		out, twice, e := patch.Send(old, data, size, cut, whole)
		if e != errno || twice != wantTwice || !bytes.Equal(out, want) {
			t.Errorf("%q, %v, %d, not %q, %v, %d", out, twice, e, want, wantTwice, errno)
		}
	})
}

// P1, P8.1: any sums, any file, any cut.
func FuzzTell(f *testing.F) {
	f.Add(2, 3, 4, []byte("abcdefgh"), []byte("xyz"), 5)
	f.Add(1, 0, 1, []byte("\x00"), []byte("\x00\x01"), 32)
	f.Add(math.MaxInt, math.MinInt, math.MaxInt, []byte(nil), []byte("a"), math.MinInt)
	f.Add(1, 0, 0, []byte(nil), make([]byte, 65537), math.MaxInt)
	f.Fuzz(func(t *testing.T, size, cut, length int, raw, data []byte, whole int) {
		s := probe.AnySums(size, cut, length, raw)
		list, errno := delta.Make(s, data)
		want := patch.Told{Tokens: list, Cut: whole, Sum: sum.Cut(whole, data)}
		if len(data) > 65536 {
			errno = api.ErrLong
		}
		if errno != api.OK {
			want = patch.Told{}
		}
		if told, e := patch.Tell(s, data, whole); e != errno || !sameTold(told, want) {
			t.Errorf("%v, %d, not %v, %d", told, e, want, errno)
		}
	})
}
