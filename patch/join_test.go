package patch_test

import (
	"bytes"
	"math"
	"slices"
	"testing"

	"wharfinger/api"
	"wharfinger/delta"
	"wharfinger/patch"
	"wharfinger/probe"
	"wharfinger/sum"
)

// P8.2: what tokens make, written out.
func TestJoin(t *testing.T) {
	for _, c := range []struct {
		name, old string
		size      int
		list      []delta.Token
		want      string
	}{
		{"the document's example", "abcd", 2, []delta.Token{probe.Text("x"), probe.Blocks(1, 1)}, "xcd"},
		{"no token", "abcd", 2, nil, ""},
		{"all blocks", "abcdefg", 2, []delta.Token{probe.Blocks(0, 4)}, "abcdefg"},
		{"the shorter one", "abcdefg", 2, []delta.Token{probe.Blocks(3, 1), probe.Blocks(3, 1)}, "gg"},
		{"some of them", "abcdefg", 2, []delta.Token{probe.Blocks(1, 2), probe.Blocks(2, 2), probe.Blocks(0, 1)}, "cdefefgab"},
		{"bytes alone", "", 2, []delta.Token{probe.Text("a"), probe.Text("bc")}, "abc"},
		{"blocks of one byte", "abc", 1, []delta.Token{probe.Blocks(2, 1), probe.Blocks(0, 2)}, "cab"},
		{"one block, greater than the file", "abc", 100, []delta.Token{probe.Blocks(0, 1), probe.Text("-"), probe.Blocks(0, 1)}, "abc-abc"},
		{"one block, as great as can be", "abc", math.MaxInt, []delta.Token{probe.Blocks(0, 1)}, "abc"},
		{"blocks greater than layer 6's", string(make([]byte, 5000)) + "b", 5000, []delta.Token{probe.Blocks(1, 1)}, "b"},
		{"bytes without a size", "abc", 0, []delta.Token{probe.Text("x")}, "x"},
		{"bytes with a size below 0", "abc", math.MinInt, []delta.Token{probe.Text("x")}, "x"},
		{"tokens of nothing", "abc", 1, []delta.Token{{}, probe.Text("x"), {Data: []byte{}}, {}}, "x"},
		{"bytes with a First", "abc", 1, []delta.Token{{First: 1, Data: []byte("x")}, {First: math.MaxInt, Data: []byte("y")}}, "xy"},
		{"no blocks, from a First that isn't there", "abc", 1, []delta.Token{{First: 3}, {First: math.MaxInt}}, ""},
		{"blocks with empty Data", "abc", 1, []delta.Token{{First: 1, Count: 1, Data: []byte{}}}, "b"},
	} {
		if out, err := patch.Join([]byte(c.old), c.size, c.list); err != nil || string(out) != c.want {
			t.Errorf("%s: %q, %v, not %q", c.name, out, err, c.want)
		}
	}
}

// P8.2: the first error of the first token that has one.
func TestJoinWrong(t *testing.T) {
	full := delta.Token{Data: make([]byte, 65536)}
	for _, c := range []struct {
		name string
		size int
		list []delta.Token
		want api.Fault
	}{
		{"a First below 0", 2, []delta.Token{{First: -1, Count: 1}}, api.Fault{At: 0, Err: api.ErrToken}},
		{"the least First", 2, []delta.Token{probe.Text("x"), {First: math.MinInt, Count: 1}}, api.Fault{At: 1, Err: api.ErrToken}},
		{"the least First and the greatest Count", 2, []delta.Token{{First: math.MinInt, Count: math.MaxInt}}, api.Fault{At: 0, Err: api.ErrToken}},
		{"a First below 0, and no blocks", 2, []delta.Token{{First: -1}}, api.Fault{At: 0, Err: api.ErrToken}},
		{"a First below 0, and bytes", 2, []delta.Token{{First: -1, Data: []byte("x")}}, api.Fault{At: 0, Err: api.ErrToken}},
		{"a Count below 0", 2, []delta.Token{probe.Blocks(0, 1), probe.Blocks(1, 1), {Count: -1}}, api.Fault{At: 2, Err: api.ErrToken}},
		{"the least Count", 2, []delta.Token{{First: 1, Count: math.MinInt}}, api.Fault{At: 0, Err: api.ErrToken}},
		{"a Count below 0, and bytes", 2, []delta.Token{{Count: -1, Data: []byte("x")}}, api.Fault{At: 0, Err: api.ErrToken}},
		{"blocks and bytes", 2, []delta.Token{{Count: 1, Data: []byte("x")}}, api.Fault{At: 0, Err: api.ErrToken}},
		{"blocks that aren't there, and bytes", 2, []delta.Token{{First: 4, Count: 1, Data: []byte("x")}}, api.Fault{At: 0, Err: api.ErrToken}},
		{"a block too many", 2, []delta.Token{probe.Blocks(0, 5)}, api.Fault{At: 0, Err: api.ErrRange}},
		{"a block too many, from the last one on", 2, []delta.Token{probe.Blocks(3, 1), probe.Blocks(3, 2)}, api.Fault{At: 1, Err: api.ErrRange}},
		{"the block behind the last one", 2, []delta.Token{probe.Blocks(4, 1)}, api.Fault{At: 0, Err: api.ErrRange}},
		{"the greatest First", 2, []delta.Token{probe.Blocks(math.MaxInt, 1)}, api.Fault{At: 0, Err: api.ErrRange}},
		{"the greatest Count", 2, []delta.Token{probe.Blocks(0, math.MaxInt)}, api.Fault{At: 0, Err: api.ErrRange}},
		{"both", 2, []delta.Token{probe.Blocks(math.MaxInt, math.MaxInt)}, api.Fault{At: 0, Err: api.ErrRange}},
		{"both, which wrap round to the first block", 2, []delta.Token{probe.Blocks(math.MaxInt, math.MaxInt), probe.Blocks(2, math.MaxInt)}, api.Fault{At: 0, Err: api.ErrRange}},
		{"the second block of one", 100, []delta.Token{probe.Blocks(1, 1)}, api.Fault{At: 0, Err: api.ErrRange}},
		{"the second block of the greatest", math.MaxInt, []delta.Token{probe.Blocks(0, 1), probe.Blocks(1, 1)}, api.Fault{At: 1, Err: api.ErrRange}},
		{"blocks of no size", 0, []delta.Token{probe.Text("x"), probe.Blocks(0, 1)}, api.Fault{At: 1, Err: api.ErrRange}},
		{"blocks of a size below 0", -2, []delta.Token{probe.Blocks(0, 1)}, api.Fault{At: 0, Err: api.ErrRange}},
		{"blocks of the least size", math.MinInt, []delta.Token{probe.Blocks(0, 1)}, api.Fault{At: 0, Err: api.ErrRange}},
		{"a byte too long", 2, []delta.Token{full, probe.Text("x")}, api.Fault{At: 1, Err: api.ErrLong}},
		{"a byte too long, at once", 2, []delta.Token{probe.Blocks(0, 1), {Data: make([]byte, 65537)}}, api.Fault{At: 1, Err: api.ErrLong}},
		{"a byte too long, by a block", 2, []delta.Token{full, {}, probe.Blocks(3, 1)}, api.Fault{At: 2, Err: api.ErrLong}},
		{"a byte too long, bit by bit", 2, []delta.Token{{Data: make([]byte, 65533)}, probe.Blocks(0, 1), probe.Text("x"), probe.Text("y")}, api.Fault{At: 3, Err: api.ErrLong}},
		{"too long, and then wrong", 2, []delta.Token{full, probe.Text("x"), {First: -1}}, api.Fault{At: 1, Err: api.ErrLong}},
		{"wrong, and then too long", 2, []delta.Token{{First: -1}, full, probe.Text("x")}, api.Fault{At: 0, Err: api.ErrToken}},
		{"not there, where it is too long", 2, []delta.Token{full, probe.Blocks(0, 9)}, api.Fault{At: 1, Err: api.ErrRange}},
		{"not there, and then wrong", 2, []delta.Token{probe.Blocks(4, 1), {First: -1}}, api.Fault{At: 0, Err: api.ErrRange}},
		{"wrong, where it is too long", 2, []delta.Token{full, {Count: 1, Data: []byte("x")}}, api.Fault{At: 1, Err: api.ErrToken}},
	} {
		out, err := patch.Join([]byte("abcdefg"), c.size, c.list)
		if probe.Fault(err) != c.want || len(out) > 0 {
			t.Errorf("%s: %d bytes, %v, not %v", c.name, len(out), err, c.want.Error())
		}
	}
}

// P8.2: a block has no bytes of a file without any.
func TestJoinOfNothing(t *testing.T) {
	for _, old := range [][]byte{nil, {}} {
		out, err := patch.Join(old, 2, []delta.Token{probe.Blocks(0, 1)})
		if probe.Fault(err) != (api.Fault{At: 0, Err: api.ErrRange}) || len(out) > 0 {
			t.Errorf("%q, %v", out, err)
		}
	}
}

// P8.2: as much as can be, by blocks and bytes; of a longer file not all.
func TestJoinLong(t *testing.T) {
	old := probe.Bytes(65537)
	for _, c := range []struct {
		name string
		list []delta.Token
		want []byte
	}{
		{"the first ones", []delta.Token{probe.Blocks(0, 64)}, old[:65536]},
		{"the last ones", []delta.Token{probe.Blocks(1, 64)}, old[1024:]},
		{"one twice, and bytes", []delta.Token{probe.Blocks(0, 32), probe.Blocks(0, 31), {Data: old[:1023]}, probe.Text("x")}, slices.Concat(old[:32768], old[:31744], old[:1023], []byte("x"))},
		{"and nothing behind them", []delta.Token{probe.Blocks(0, 64), {}}, old[:65536]},
	} {
		if out, err := patch.Join(old, 1024, c.list); err != nil || !bytes.Equal(out, c.want) {
			t.Errorf("%s: %d bytes, %v", c.name, len(out), err)
		}
	}
	if out, err := patch.Join(old, 1024, []delta.Token{probe.Blocks(0, 65)}); probe.Fault(err) != (api.Fault{At: 0, Err: api.ErrLong}) || len(out) > 0 {
		t.Errorf("all of it: %d bytes, %v", len(out), err)
	}
	many := slices.Repeat([]delta.Token{probe.Blocks(0, 1), {}}, 20000) // more than can be written
	if out, err := patch.Join([]byte("ab"), 1, many); err != nil || !bytes.Equal(out, bytes.Repeat([]byte("a"), 20000)) {
		t.Errorf("40000 tokens: %d bytes, %v", len(out), err)
	}
}

// P8.3: what was told comes, if the sum is that of what the tokens make, as far as it counts.
func TestApply(t *testing.T) {
	old, want := []byte("abcdefg"), []byte("xcdg")
	list := []delta.Token{probe.Text("x"), probe.Blocks(1, 1), probe.Blocks(3, 1)}
	for _, cut := range cuts() {
		told := patch.Told{Tokens: list, Cut: cut, Sum: sum.Cut(cut, want)}
		if out, err := told.Apply(old, 2); err != nil || !bytes.Equal(out, want) {
			t.Errorf("cut %d: %q, %v", cut, out, err)
		}
		for at := range 32 { // also where nothing counts, there being noughts
			told.Sum = sum.Cut(cut, want)
			told.Sum[at] ^= 1
			if out, err := told.Apply(old, 2); probe.Fault(err) != (api.Fault{At: 3, Err: api.ErrDigest}) || len(out) > 0 {
				t.Errorf("cut %d, another byte %d: %q, %v", cut, at, out, err)
			}
		}
	}
	var none patch.Told
	if out, err := none.Apply(nil, 0); err != nil || len(out) > 0 {
		t.Errorf("nothing told: %q, %v", out, err)
	}
	none.Cut = 32
	if out, err := none.Apply(old, 2); probe.Fault(err) != (api.Fault{At: 0, Err: api.ErrDigest}) || len(out) > 0 {
		t.Errorf("nothing told, with a sum of noughts: %q, %v", out, err)
	}
}

// P8.3: of another file than the one by whose sums it was told comes another one, or none.
func TestApplyToAnother(t *testing.T) {
	told, _ := patch.Tell(probe.Sums([]byte("abcdef"), 2, 32), []byte("abxef"), 32)
	for _, c := range []struct {
		old  string
		size int
		want api.Fault
	}{
		{"abcdef", 2, api.Fault{}},
		{"abc.ef", 2, api.Fault{}},
		{"ab--efgh", 2, api.Fault{}},
		{"ab--eg", 2, api.Fault{At: 3, Err: api.ErrDigest}},
		{"abcde", 2, api.Fault{At: 3, Err: api.ErrDigest}},
		{"abcdef", 1, api.Fault{At: 3, Err: api.ErrDigest}},
		{"abcd", 2, api.Fault{At: 2, Err: api.ErrRange}},
		{"abcdef", 3, api.Fault{At: 2, Err: api.ErrRange}},
		{"", 2, api.Fault{At: 0, Err: api.ErrRange}},
		{"abcdef", 0, api.Fault{At: 0, Err: api.ErrRange}},
	} {
		out, err := told.Apply([]byte(c.old), c.size)
		want := ""
		if c.want.Err == api.OK {
			want = "abxef"
		}
		if probe.Fault(err) != c.want || string(out) != want {
			t.Errorf("%q, blocks of %d: %q, %v", c.old, c.size, out, err)
		}
	}
}

// P8.3: Join's errors come ahead of that of the sum.
func TestApplyWrong(t *testing.T) {
	for _, c := range []struct {
		list []delta.Token
		want api.Fault
	}{
		{[]delta.Token{probe.Text("a"), {First: -1}}, api.Fault{At: 1, Err: api.ErrToken}},
		{[]delta.Token{probe.Blocks(2, 1)}, api.Fault{At: 0, Err: api.ErrRange}},
		{[]delta.Token{{Data: make([]byte, 65536)}, probe.Blocks(0, 1)}, api.Fault{At: 1, Err: api.ErrLong}},
		{[]delta.Token{probe.Blocks(0, 1)}, api.Fault{At: 1, Err: api.ErrDigest}},
	} {
		told := patch.Told{Tokens: c.list, Cut: 32}
		if out, err := told.Apply([]byte("abc"), 2); probe.Fault(err) != c.want || len(out) > 0 {
			t.Errorf("%d tokens: %q, %v, not %v", len(c.list), out, err, c.want.Error())
		}
	}
}

// joinAs joins as the document words it: each block is cut out on its own, and the place of too many bytes is looked for at last.
func joinAs(old []byte, size int, list []delta.Token) ([]byte, api.Fault) {
	var parts [][]byte // the blocks
	for rest := old; size > 0 && len(rest) > 0; {
		n := min(size, len(rest))
		parts = append(parts, rest[:n])
		rest = rest[n:]
	}
	var out []byte
	for i, t := range list {
		switch {
		case t.First < 0 || t.Count < 0:
			return nil, api.Fault{At: i, Err: api.ErrToken}
		case t.Count > 0 && len(t.Data) > 0:
			return nil, api.Fault{At: i, Err: api.ErrToken}
		case t.Count > 0 && (t.First >= len(parts) || t.Count > len(parts[t.First:])):
			return nil, api.Fault{At: i, Err: api.ErrRange}
		case t.Count > 0:
			out = append(out, bytes.Join(parts[t.First:t.First+t.Count], nil)...)
		}
		out = append(out, t.Data...)
		if len(out) > 65536 {
			return nil, api.Fault{At: i, Err: api.ErrLong}
		}
	}
	return out, api.Fault{}
}

// P1, P8.2, P8.3: any tokens, any file, any size.
func FuzzJoin(f *testing.F) {
	f.Add([]byte("abcdefg"), 2, 0, 4, []byte(nil), 0, 0, []byte("xyz"), 1)
	f.Add([]byte("abcdefg"), 2, 3, 2, []byte(nil), 0, 0, []byte("xyz"), 32)
	f.Add([]byte("abcdefg"), math.MaxInt, 0, 1, []byte(nil), math.MaxInt, math.MaxInt, []byte(nil), 0)
	f.Add([]byte("abcdefg"), math.MinInt, 0, 1, []byte(nil), math.MinInt, math.MinInt, []byte(nil), -1)
	f.Add(probe.Bytes(40000), 1000, 0, 30, []byte(nil), 0, 40, []byte(nil), 33)
	f.Fuzz(func(t *testing.T, old []byte, size, first, count int, data []byte, next, more int, other []byte, cut int) {
		list := []delta.Token{{First: first, Count: count, Data: data}, {First: next, Count: more, Data: other}}
		want, fault := joinAs(old, size, list)
		out, err := patch.Join(old, size, list)
		if probe.Fault(err) != fault || !bytes.Equal(out, want) {
			t.Fatalf("Join: %q, %v, not %q, %v", out, err, want, fault.Error())
		}
		told := patch.Told{Tokens: list, Cut: cut, Sum: sum.Cut(cut, want)}
		out, err = told.Apply(old, size)
		if probe.Fault(err) != fault || !bytes.Equal(out, want) {
			t.Fatalf("Apply: %q, %v, not %q, %v", out, err, want, fault.Error())
		}
		told.Sum[0]++
		if fault.Err == api.OK {
			fault = api.Fault{At: 2, Err: api.ErrDigest}
		}
		if out, err := told.Apply(old, size); probe.Fault(err) != fault || len(out) > 0 {
			t.Fatalf("Apply with another sum: %q, %v, not %v", out, err, fault.Error())
		}
	})
}
