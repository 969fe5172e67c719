package push_test

import (
	"bytes"
	"math"
	"strings"
	"testing"

	"wharfinger/api"
	"wharfinger/conf"
	"wharfinger/delta"
	"wharfinger/patch"
	"wharfinger/probe"
	"wharfinger/push"
	"wharfinger/sum"
	"wharfinger/view"
)

// told: a file as tokens tell it, with the sum of what they make, which is data.
func told(data []byte, tokens ...delta.Token) patch.Told {
	return patch.Told{Tokens: tokens, Cut: 32, Sum: sum.Of(data)}
}

// tell: a file is told, and that is the answer.
func tell(t *testing.T, j *push.Job, i int, x patch.Told, redo bool, want api.Errno) {
	t.Helper()
	if again, e := j.Tell(i, x); again != redo || e != want {
		t.Errorf("Tell %d: %v, %d, not %v, %d", i, again, e, redo, want)
	}
}

// P17.3: files that are told rightly are sent, whatever the old one is.
func TestTell(t *testing.T) {
	long := probe.Bytes(8192)
	for _, c := range []struct {
		name, old, data string
	}{
		{"an empty one from none", "", ""},
		{"from none", "", "some text"},
		{"emptied", "some text", ""},
		{"the same", "0123456789abcdef!", "0123456789abcdef!"},
		{"with a byte ahead", "0123456789abcdef!", "x0123456789abcdef!"},
		{"blocks changed about", "01234567abcdefgh", "abcdefgh01234567abcdefgh"},
		{"the longest from none", "", string(long)},
		{"the longest from itself", string(long), string(long)},
		{"the longest from another", string(probe.Bytes(8191)), string(long)},
	} {
		s := kept(t, put("r/a", c.old), put("a", "other"))
		j := begin(t, s, home("r"), "a", "none")
		for i, old := range []string{c.old, ""} {
			sums, _ := j.Sums(i)
			x, e := patch.Tell(sums, []byte(c.data), 32)
			if e != api.OK {
				t.Fatal(e)
			}
			if i == 0 && len(c.old) > 8 && c.data == c.old && len(x.Tokens) != 1 {
				t.Errorf("%s: %d tokens", c.name, len(x.Tokens))
			}
			tell(t, j, i, x, false, api.OK)
			if j.Left() != 1-i {
				t.Errorf("%s from %q: %d left", c.name, old, j.Left())
			}
		}
		if !sameChanges(j.Changes(), changes(put("r/a", c.data), put("r/none", c.data))) {
			t.Errorf("%s: %v", c.name, j.Changes())
		}
		commit(t, j, 2, api.OK)
		holds(t, s, 2, map[string]string{"r/a": c.data, "r/none": c.data, "a": "other"})
	}
}

// P17.3: what a Told can be that is refused, and why first; nothing is changed by it: it isn't told, nor sent.
func TestTellRefused(t *testing.T) {
	old := probe.Bytes(100)
	right := told([]byte("x"), probe.Text("x"))
	cut := func(x patch.Told, n int) patch.Told {
		x.Cut = n
		return x
	}
	long := make([]byte, 8193)
	for _, c := range []struct {
		name string
		x    patch.Told
		want api.Errno
	}{
		{"no cut", cut(right, 0), api.ErrForm},
		{"a cut one too few", cut(right, 31), api.ErrForm},
		{"a cut one too many", cut(right, 33), api.ErrForm},
		{"a cut below 0", cut(right, -1), api.ErrForm},
		{"the greatest cut", cut(right, math.MaxInt), api.ErrForm},
		{"the zero one", patch.Told{}, api.ErrForm},
		{"a sum that is cut, too", patch.Told{Tokens: right.Tokens, Cut: 4, Sum: sum.Cut(4, []byte("x"))}, api.ErrForm},
		{"a wrong cut, and a wrong token", cut(told(nil, probe.Blocks(-1, 1)), 4), api.ErrForm},
		{"a token below 0", told(nil, probe.Blocks(-1, 1)), api.ErrToken},
		{"a count below 0", told(nil, probe.Blocks(0, -1)), api.ErrToken},
		{"a token of both", told(nil, delta.Token{Count: 1, Data: []byte("x")}), api.ErrToken},
		{"a block that isn't there", told(nil, probe.Blocks(13, 1)), api.ErrRange},
		{"blocks of which the last isn't there", told(nil, probe.Blocks(0, 14)), api.ErrRange},
		{"the greatest numbers", told(nil, probe.Blocks(math.MaxInt, math.MaxInt)), api.ErrRange},
		{"more than a file that is patched", told(nil, delta.Token{Data: make([]byte, 65537)}), api.ErrLong},
		{"a byte too many", told(long, delta.Token{Data: long}), api.ErrLong},
		{"a byte too many, of some tokens", told(append(bytes.Clone(old), long[:8093]...), probe.Blocks(0, 13), delta.Token{Data: long[:8093]}), api.ErrLong},
		{"the first of two", told(nil, probe.Blocks(13, 1), probe.Blocks(-1, 1)), api.ErrRange},
	} {
		s := kept(t, put("r/a", string(old)))
		j := begin(t, s, home("r"), "a", "b")
		for range 2 {
			tell(t, j, 0, c.x, false, c.want)
			if j.Left() != 2 || len(j.Changes()) > 0 {
				t.Errorf("%s: %d left", c.name, j.Left())
			}
		}
		tell(t, j, 0, right, false, api.OK)
		tell(t, j, 0, c.x, false, api.ErrTwice)
		tell(t, j, 2, c.x, false, api.ErrRange)
		full(t, begin(t, s, home("r"), "a"), "another job")
		if !sameChanges(j.Changes(), changes(put("r/a", "x"))) {
			t.Errorf("%s: %v", c.name, j.Changes())
		}
	}
}

// P17.3: a file whose sum isn't right is to be sent whole, and isn't told any more.
func TestRedo(t *testing.T) {
	for _, c := range []struct {
		name string
		x    patch.Told
	}{
		{"another sum", told([]byte("y"), probe.Text("x"))},
		{"the last byte of the sum", patch.Told{Tokens: []delta.Token{probe.Text("x")}, Cut: 32, Sum: sum.Cut(31, []byte("x"))}},
		{"other blocks", told([]byte("old text"), probe.Blocks(1, 1))},
		{"no token", told([]byte("x"))},
		{"too long, too", told(nil, delta.Token{Data: make([]byte, 8193)})},
		{"as long as can be patched", told(nil, delta.Token{Data: make([]byte, 65536)})},
	} {
		s := kept(t, put("r/a", "old text, more"))
		j := begin(t, s, home("r"), "b", "a")
		tell(t, j, 1, c.x, true, api.OK)
		for _, x := range []patch.Told{c.x, told([]byte("x"), probe.Text("x")), {}, told(nil, probe.Blocks(-1, 1))} {
			tell(t, j, 1, x, false, api.ErrPhase)
		}
		if j.Left() != 2 || len(j.Changes()) > 0 {
			t.Errorf("%s: %d left, %v", c.name, j.Left(), j.Changes())
		}
		commit(t, j, 0, api.ErrPhase)
		tell(t, j, 0, told([]byte("x"), probe.Text("x")), false, api.OK) // the other one isn't told by it
		if e := j.Full(1, make([]byte, 8193)); e != api.ErrLong {
			t.Errorf("%s: Full of too much: %d", c.name, e)
		}
		tell(t, j, 1, c.x, false, api.ErrPhase)
		if e := j.Full(1, []byte("whole")); e != api.OK {
			t.Errorf("%s: Full: %d", c.name, e)
		}
		tell(t, j, 1, c.x, false, api.ErrTwice)
		commit(t, j, 2, api.OK)
		tell(t, j, 1, c.x, false, api.ErrPhase)
		holds(t, s, 2, map[string]string{"r/b": "x", "r/a": "whole"})
	}
}

// P17.3: a file that is to be sent whole may be taken out as well.
func TestRedoAndGone(t *testing.T) {
	s := kept(t, put("r/a", "old"))
	j := begin(t, s, home("r"), "a", "b")
	for i := range 2 {
		tell(t, j, i, told([]byte("y"), probe.Text("x")), true, api.OK)
	}
	if a, b := j.Gone(0), j.Gone(1); a != api.OK || b != api.ErrMissing || j.Left() != 1 {
		t.Errorf("%d, %d, %d left", a, b, j.Left())
	}
}

// P17.3: files that are sent whole, from none to the longest.
func TestFull(t *testing.T) {
	long := string(probe.Bytes(8193))
	for _, c := range []struct {
		data string
		want api.Errno
	}{
		{"", api.OK}, {"x", api.OK}, {"\x00\xff", api.OK}, {long[:8191], api.OK}, {long[:8192], api.OK},
		{long, api.ErrLong}, {strings.Repeat(long, 40), api.ErrLong},
	} {
		s := kept(t, put("r/a", "old"))
		j := begin(t, s, home("r"), "a", "b")
		for i := range 2 {
			for range 2 {
				if e := j.Full(i, []byte(c.data)); e != c.want {
					t.Errorf("%d bytes: %d", len(c.data), e)
				}
				if c.want == api.OK {
					break
				}
				if e := j.Full(i+2, []byte(c.data)); e != api.ErrRange {
					t.Errorf("%d bytes, of no file: %d", len(c.data), e)
				}
			}
		}
		if c.want != api.OK {
			if j.Left() != 2 || len(j.Changes()) > 0 {
				t.Errorf("%d bytes: %d left", len(c.data), j.Left())
			}
			continue
		}
		if e := j.Full(1, []byte(long)); e != api.ErrTwice {
			t.Errorf("%d bytes, then more: %d", len(c.data), e)
		}
		commit(t, j, 2, api.OK)
		holds(t, s, 2, map[string]string{"r/a": c.data, "r/b": c.data})
	}
}

// P17.3: only a file that is there can be taken out.
func TestGone(t *testing.T) {
	s := kept(t, put("r/a", "x"), put("r/empty", ""), put("r/b/c", "y"), put("b", "z"), put("r/was", ""))
	if _, err := s.Commit(gone("r/was")); err != nil {
		t.Fatal(err)
	}
	j := begin(t, s, home("r"), "b", "empty", "a", "was", "none")
	for i, want := range []api.Errno{api.ErrMissing, api.OK, api.OK, api.ErrMissing, api.ErrMissing} {
		if e := j.Gone(i); e != want {
			t.Errorf("%d: %d, not %d", i, e, want)
		}
	}
	if j.Left() != 3 || !sameChanges(j.Changes(), changes(gone("r/empty"), gone("r/a"))) {
		t.Errorf("%d left, %v", j.Left(), j.Changes())
	}
	for _, i := range []int{1, 2} {
		if e := j.Gone(i); e != api.ErrTwice {
			t.Errorf("%d again: %d", i, e)
		}
	}
	holds(t, s, 2, map[string]string{"r/a": "x", "r/empty": "", "r/b/c": "y", "b": "z"})
}

// P17.3: what each answers of a file that isn't there, or was sent, or when the job is committed.
func TestRefusedOfAFile(t *testing.T) {
	s := kept(t, put("r/a", "x"), put("r/b", "y"), put("r/c", "z"))
	j := begin(t, s, home("r"), "a", "b", "c")
	x := told([]byte("new"), probe.Text("new"))
	each := func(i int, want api.Errno) {
		t.Helper()
		tell(t, j, i, x, false, want)
		tell(t, j, i, patch.Told{}, false, want)
		tell(t, j, i, told(nil, probe.Text("wrong sum")), false, want)
		if a, b, c := j.Full(i, nil), j.Full(i, make([]byte, 8193)), j.Gone(i); a != want || b != want || c != want {
			t.Errorf("%d: %d, %d, %d, not %d", i, a, b, c, want)
		}
	}
	outside := []int{-1, 3, 4, math.MaxInt, math.MinInt}
	for _, i := range outside {
		each(i, api.ErrRange)
	}
	tell(t, j, 0, x, false, api.OK)
	j.Full(1, []byte("full"))
	j.Gone(2)
	for i := range 3 {
		each(i, api.ErrTwice)
	}
	for _, i := range outside {
		each(i, api.ErrRange)
	}
	commit(t, j, 2, api.OK)
	for i := range 3 {
		each(i, api.ErrPhase)
	}
	for _, i := range outside {
		each(i, api.ErrPhase)
	}
	holds(t, s, 2, map[string]string{"r/a": "new", "r/b": "full"})
}

// P2, rule 4: what is handed in is as it was, its spare room too, and isn't kept.
func TestWhatIsSentIsNotShared(t *testing.T) {
	room := []byte("dataspare room")
	tokens := []delta.Token{probe.Blocks(0, 1), {Data: room[:4]}, probe.Text("spare")}
	before := probe.CloneTokens(tokens)
	s := kept(t, put("r/a", "old text"))
	j := begin(t, s, home("r"), "a", "b", "c")
	tell(t, j, 0, told([]byte("old textdata"), tokens[:2]...), false, api.OK)
	tell(t, j, 1, told([]byte("data"), tokens[1]), false, api.OK)
	if e := j.Full(2, room[:4]); e != api.OK {
		t.Fatal(e)
	}
	if !probe.SameTokens(tokens, before) || string(room) != "dataspare room" {
		t.Errorf("%v, %q", tokens, room)
	}
	probe.SpoilTokens(tokens)
	want := changes(put("r/a", "old textdata"), put("r/b", "data"), put("r/c", "data"))
	if !sameChanges(j.Changes(), want) {
		t.Errorf("%v", j.Changes())
	}
	commit(t, j, 2, api.OK)
	probe.Spoil(room)
	holds(t, s, 2, map[string]string{"r/a": "old textdata", "r/b": "data", "r/c": "data"})
}

// P2, rule 4: jobs have nothing to do with each other, but for their store.
func TestJobsAreApart(t *testing.T) {
	s := kept(t, put("r/a", "a"), put("r/b", "b"))
	one, two := begin(t, s, home("r"), "a", "c"), begin(t, s, home("r"), "b", "d")
	other := begin(t, view.New(), conf.Module{Root: "r", Write: true, Quota: 9}, "a")
	tell(t, one, 0, told([]byte("y"), probe.Text("x")), true, api.OK)
	tell(t, two, 0, told([]byte("x"), probe.Text("x")), false, api.OK)
	full(t, other, "other")
	if one.Left() != 2 || two.Left() != 1 || other.Left() != 0 {
		t.Errorf("%d, %d, %d", one.Left(), two.Left(), other.Left())
	}
	commit(t, other, 1, api.OK)
	two.Full(1, []byte("d"))
	commit(t, two, 2, api.OK)
	one.Gone(0)
	one.Full(1, []byte("c"))
	commit(t, one, 3, api.OK)
	holds(t, s, 3, map[string]string{"r/b": "x", "r/c": "c", "r/d": "d"})
}
