package push_test

import (
	"bytes"
	"errors"
	"fmt"
	"math"
	"slices"
	"strings"
	"testing"

	"wharfinger/api"
	"wharfinger/block"
	"wharfinger/code"
	"wharfinger/conf"
	"wharfinger/patch"
	"wharfinger/path"
	"wharfinger/probe"
	"wharfinger/push"
	"wharfinger/tree"
	"wharfinger/view"
	"wharfinger/word"
)

// The calls keep the document's signatures, the limits their values.
var (
	_ func(conf.Module, ...string) ([]string, error)               = push.Paths
	_ func(*view.Store, conf.Module, ...string) (*push.Job, error) = push.New
	_ func(*push.Job) int                                          = (*push.Job).Len
	_ func(*push.Job, int) (block.Signature, api.Errno)            = (*push.Job).Sums
	_ func(*push.Job) []word.Word                                  = (*push.Job).Words
	_ func(*push.Job, int, patch.Told) (bool, api.Errno)           = (*push.Job).Tell
	_ func(*push.Job, int, []byte) api.Errno                       = (*push.Job).Full
	_ func(*push.Job, int) api.Errno                               = (*push.Job).Gone
	_ func(*push.Job) int                                          = (*push.Job).Left
	_ func(*push.Job) []tree.Change                                = (*push.Job).Changes
	_ func(*push.Job) (int, api.Errno)                             = (*push.Job).Commit
	_ [8]struct{}                                                  = [push.Size]struct{}{}
	_ [4]struct{}                                                  = [push.Cut]struct{}{}
	_ [8192]struct{}                                               = [push.MaxFile]struct{}{}
)

func put(p, data string) tree.Change { return tree.Change{Path: p, Data: []byte(data)} }

func gone(p string) tree.Change { return tree.Change{Path: p, Gone: true} }

// changes: these, as a list.
func changes(list ...tree.Change) []tree.Change { return list }

// home: a module that may be written, with this root.
func home(root string) conf.Module {
	return conf.Module{Name: "home", Root: root, Write: true, Slots: 16, Quota: 1 << 18}
}

// kept: a store whose last version has these files.
func kept(t *testing.T, list ...tree.Change) *view.Store {
	t.Helper()
	s := view.New()
	if _, err := s.Commit(list...); err != nil {
		t.Fatal(err)
	}
	return s
}

// begin: a job that can be.
func begin(t *testing.T, s *view.Store, m conf.Module, names ...string) *push.Job {
	t.Helper()
	j, err := push.New(s, m, names...)
	if err != nil || j == nil || j.Len() != len(names) || j.Left() != len(names) || len(j.Changes()) > 0 {
		t.Fatalf("New %q: %v", names, err)
	}
	return j
}

// full: files are sent whole, from the first on.
func full(t *testing.T, j *push.Job, data ...string) {
	t.Helper()
	for i, d := range data {
		if e := j.Full(i, []byte(d)); e != api.OK {
			t.Fatalf("Full %d: %d", i, e)
		}
	}
}

// commit: a job is committed, and that is the answer.
func commit(t *testing.T, j *push.Job, want int, errno api.Errno) {
	t.Helper()
	if version, e := j.Commit(); version != want || e != errno {
		t.Errorf("Commit: %d, %d, not %d, %d", version, e, want, errno)
	}
}

// files: those that the last version has.
func files(s *view.Store) map[string]string {
	all := map[string]string{}
	list, _ := s.List(s.Now(), "")
	for _, p := range list {
		data, _ := s.Read(s.Now(), p)
		all[p] = string(data)
	}
	return all
}

// holds: has the last version just these files?
func holds(t *testing.T, s *view.Store, version int, want map[string]string) {
	t.Helper()
	if got := files(s); s.Now() != version || fmt.Sprint(got) != fmt.Sprint(want) {
		t.Errorf("at %d: %.200q, not at %d: %.200q", s.Now(), fmt.Sprint(got), version, fmt.Sprint(want))
	}
}

// sameChanges: are two lists of changes one, data that are nil and empty ones being the same?
func sameChanges(list, other []tree.Change) bool {
	return slices.EqualFunc(list, other, func(c, d tree.Change) bool {
		return c.Path == d.Path && c.Gone == d.Gone && bytes.Equal(c.Data, d.Data)
	})
}

// sameSums: are two signatures one, lists that are nil and empty ones being the same?
func sameSums(s, other block.Signature) bool {
	return s.Size == other.Size && s.Cut == other.Cut && s.Length == other.Length && slices.Equal(s.Blocks, other.Blocks)
}

// letters: a path with so many bytes, in segments that are as long as can be.
func letters(n int) string {
	p := strings.Repeat("abcdefghijklmnop/", n/17+1)
	return p[:n]
}

// P17.1: the paths in the tree, in the order of the names.
func TestPaths(t *testing.T) {
	for _, c := range []struct {
		root        string
		names, want []string
	}{
		{"r", nil, nil},
		{"", nil, nil},
		{"no root", nil, nil},
		{"r", []string{"a"}, []string{"r/a"}},
		{"r", []string{"c", "a/b", "b"}, []string{"r/c", "r/a/b", "r/b"}},
		{"r/s", []string{"r", "s", "r.s"}, []string{"r/s/r", "r/s/s", "r/s/r.s"}},
		{"", []string{"b", "a/b"}, []string{"b", "a/b"}},
		{"a/b/c/d/e", []string{"f"}, []string{"a/b/c/d/e/f"}},
		{"", []string{"a/b/c/d/e/f"}, []string{"a/b/c/d/e/f"}},
		{"r", []string{letters(62)}, []string{"r/" + letters(62)}},
	} {
		if got, err := push.Paths(home(c.root), c.names...); err != nil || !slices.Equal(got, c.want) {
			t.Errorf("%q, %q: %q, %v", c.root, c.names, got, err)
		}
	}
}

// P17.1: names that can't be; that one is none is told ahead of what is wrong between two.
func TestPathsWrong(t *testing.T) {
	for _, c := range []struct {
		root  string
		names []string
		want  api.Errno
		at    int // -1: the place is free
	}{
		{"r", []string{""}, api.ErrPath, -1},
		{"", []string{""}, api.ErrPath, -1},
		{"r", []string{"../x"}, api.ErrPath, -1},
		{"r", []string{"a", "b", "c//d"}, api.ErrPath, -1},
		{"r", []string{"/a"}, api.ErrPath, -1},
		{"R", []string{"a"}, api.ErrPath, -1},
		{"r/", []string{"a"}, api.ErrPath, -1},
		{"a/b/c/d/e", []string{"f/g"}, api.ErrPath, -1},
		{"r", []string{letters(63)}, api.ErrPath, -1},
		{"r", []string{"a", "a", "A"}, api.ErrPath, -1},
		{"r", []string{"A", "a", "a"}, api.ErrPath, -1},
		{"r", []string{"a", "a"}, api.ErrTwice, 1},
		{"", []string{"c", "a", "c"}, api.ErrTwice, 2},
		{"r", []string{"c", "a", "b", "a/b"}, api.ErrPath, 3},
		{"r", []string{"c", "a/b", "a"}, api.ErrPath, 2},
		{"r", []string{"a", "a/b", "a"}, api.ErrPath, 1},
		{"r", []string{"a", "a", "a/b"}, api.ErrTwice, 1},
	} {
		got, err := push.Paths(home(c.root), c.names...)
		if !errors.Is(err, c.want) || code.Number(err) != c.want || c.at >= 0 && code.Place(err) != c.at || len(got) > 0 {
			t.Errorf("%q, %q: %q, %v, not %d", c.root, c.names, got, err, c.want)
		}
		if j, err := push.New(view.New(), home(c.root), c.names...); j != nil || !errors.Is(err, c.want) || code.Number(err) != c.want {
			t.Errorf("New: %q, %q: %v, not %d", c.root, c.names, err, c.want)
		}
	}
}

// P17.1: of a module's other fields none counts for paths; and there may be more than a job has.
func TestPathsOfAnyModule(t *testing.T) {
	var names, want []string
	for i := range 100 {
		names, want = append(names, fmt.Sprint("f", i)), append(want, fmt.Sprint("r/f", i))
	}
	if got, err := push.Paths(conf.Module{Root: "r", Quota: -1}, names...); err != nil || !slices.Equal(got, want) {
		t.Errorf("%q, %v", got, err)
	}
}

// P17.1: who can't begin, and why first.
func TestNewRefused(t *testing.T) {
	many := func(n int, names ...string) []string {
		for i := range n - len(names) {
			names = append(names, fmt.Sprint("f", i))
		}
		return names
	}
	for _, c := range []struct {
		write bool
		names []string
		want  api.Errno
	}{
		{false, []string{"a"}, api.ErrRead},
		{false, nil, api.ErrRead},
		{false, many(17), api.ErrRead},
		{false, []string{""}, api.ErrRead},
		{false, []string{"a", "a"}, api.ErrRead},
		{true, nil, api.ErrRange},
		{true, []string{}, api.ErrRange},
		{true, many(17), api.ErrRange},
		{true, many(17, ""), api.ErrRange},
		{true, many(17, "f1"), api.ErrRange},
		{true, many(1000), api.ErrRange},
		{true, many(16, "A"), api.ErrPath},
		{true, many(16, "f1"), api.ErrTwice},
		{true, many(16, "f1/x"), api.ErrPath},
		{true, []string{""}, api.ErrPath},
	} {
		m := home("r")
		m.Write = c.write
		s := kept(t, put("r/a", "x"))
		j, err := push.New(s, m, c.names...)
		if j != nil || !errors.Is(err, c.want) || code.Number(err) != c.want {
			t.Errorf("%v, %d names: %v, not %d", c.write, len(c.names), err, c.want)
		}
		holds(t, s, 1, map[string]string{"r/a": "x"})
	}
	for _, n := range []int{1, 2, 15, 16} {
		begin(t, view.New(), home("r"), many(n)...)
	}
}

// P17.1: there may be a job whatever the store has, and whatever the quota is; it changes nothing.
func TestNew(t *testing.T) {
	s := kept(t, put("r/a/b", "x"), put("r/c", "y"))
	m := home("r")
	m.Quota = 0
	j := begin(t, s, m, "c", "a", "c.d")
	commit(t, j, 0, api.ErrPhase)
	holds(t, s, 1, map[string]string{"r/a/b": "x", "r/c": "y"})
	if s.States() != 2 || len(s.Pinned()) > 0 {
		t.Errorf("States %d, Pinned %v", s.States(), s.Pinned())
	}
}

// P17.2: the sums of old files, from none to the longest.
func TestSums(t *testing.T) {
	long := string(probe.Bytes(8192))
	s := kept(t, put("r/empty", ""), put("r/one", "x"), put("r/block", "12345678"), put("r/more", "123456789"), put("r/long", long), put("none", "y"))
	names := []string{"none", "empty", "one", "block", "more", "long"}
	want := []string{"", "", "x", "12345678", "123456789", long}
	j := begin(t, s, home("r"), names...)
	words := j.Words()
	if len(words) != len(names) {
		t.Fatalf("%d words", len(words))
	}
	for i, data := range want {
		sums := probe.Sums([]byte(data), 8, 4)
		if got, e := j.Sums(i); e != api.OK || got.Length != len(data) || !sameSums(got, sums) {
			t.Errorf("Sums %s: %v, %d", names[i], got, e)
		}
		w := words[i]
		if w.Kind != word.Sums || w.Num != i || !sameSums(w.Sums, sums) {
			t.Errorf("Words %s: %v", names[i], w)
		}
		if _, e := w.Frame(); e != api.OK { // so that nothing else is in it
			t.Errorf("Words %s: no frame: %d", names[i], e)
		}
	}
	for _, i := range []int{-1, len(names), len(names) + 1, math.MaxInt, math.MinInt} {
		if got, e := j.Sums(i); e != api.ErrRange || !sameSums(got, block.Signature{}) {
			t.Errorf("Sums %d: %v, %d", i, got, e)
		}
	}
}

// P17.2: these hang on the old files alone, not on what was sent.
func TestSumsOfWhatWasSent(t *testing.T) {
	s := kept(t, put("r/a", "old text"))
	j := begin(t, s, home("r"), "a", "b")
	full(t, j, "new text, longer", "b, too")
	for i, data := range []string{"old text", ""} {
		if got, e := j.Sums(i); e != api.OK || !sameSums(got, probe.Sums([]byte(data), 8, 4)) {
			t.Errorf("%d: %v, %d", i, got, e)
		}
	}
	if w := j.Words(); len(w) != 2 || w[0].Sums.Length != 8 || w[1].Sums.Length != 0 {
		t.Errorf("%v", w)
	}
}

// P17.1, P17.2: the old file is what the last version has there now: behind the Commit what was sent.
func TestSumsBehindCommit(t *testing.T) {
	s := kept(t, put("r/a", "old text"), put("r/c", "c"))
	j := begin(t, s, home("r"), "b", "a", "c")
	full(t, j, "b, and more", "a")
	j.Gone(2)
	commit(t, j, 2, api.OK)
	for i, data := range []string{"b, and more", "a", ""} {
		if got, e := j.Sums(i); e != api.OK || !sameSums(got, probe.Sums([]byte(data), 8, 4)) {
			t.Errorf("%d: %v, %d", i, got, e)
		}
	}
	if _, e := j.Sums(3); e != api.ErrRange {
		t.Errorf("3: %d", e)
	}
}

// P1, P17.2: an old file that is longer than any job's.
func TestSumsOfTooLong(t *testing.T) {
	for _, n := range []int{8193, 32768, 32769, 1 << 18} {
		j := begin(t, kept(t, put("r/a", string(probe.Bytes(n)))), home("r"), "a")
		j.Sums(0)
		j.Words()
		j.Tell(0, patch.Told{Cut: 32})
		full(t, j, "short")
		commit(t, j, 2, api.OK)
	}
}

// P17.2: each call answers new memory.
func TestSumsShareNothing(t *testing.T) {
	j := begin(t, kept(t, put("r/a", "some blocks of text"), put("r/b", "others")), home("r"), "a", "b")
	want := probe.Sums([]byte("some blocks of text"), 8, 4)
	spoil := func(s block.Signature) {
		for i := range s.Blocks[:cap(s.Blocks)] {
			s.Blocks[:cap(s.Blocks)][i] = block.Block{Weak: 7}
		}
	}
	first, _ := j.Sums(0)
	words, again := j.Words(), j.Words()
	spoil(first)
	spoil(words[0].Sums)
	words[:cap(words)][1] = word.Word{}
	if second, _ := j.Sums(0); !sameSums(second, want) || !sameSums(again[0].Sums, want) || again[1].Kind != word.Sums || !sameSums(j.Words()[0].Sums, want) {
		t.Error("answers share memory")
	}
}

// P2, rule 4: the names are as they were, their spare room too, and aren't kept; the paths are new memory.
func TestNamesAreNotShared(t *testing.T) {
	room := []string{"b", "a", "spare", "room"}
	s := view.New()
	j := begin(t, s, home("r"), room[:2]...)
	first, _ := push.Paths(home(""), room[:2]...)
	second, _ := push.Paths(home(""), room[:2]...)
	if !slices.Equal(room, []string{"b", "a", "spare", "room"}) {
		t.Errorf("the names became %q", room)
	}
	for i := range first[:cap(first)] {
		first[:cap(first)][i] = "spoilt"
	}
	if !slices.Equal(room, []string{"b", "a", "spare", "room"}) || !slices.Equal(second, []string{"b", "a"}) {
		t.Errorf("%q, %q", room, second)
	}
	room[0], room[1] = "x", "y"
	full(t, j, "1", "2")
	commit(t, j, 1, api.OK)
	holds(t, s, 1, map[string]string{"r/b": "1", "r/a": "2"})
}

// P2: an error that was written into isn't kept.
func TestErrorsAreNew(t *testing.T) {
	for _, names := range [][]string{{"A"}, {"a", "a"}, {"a", "a/b"}} {
		for _, call := range []func() error{
			func() error { _, err := push.Paths(home("r"), names...); return err },
			func() error { _, err := push.New(view.New(), home("r"), names...); return err },
		} {
			if !probe.NewFaults(call) {
				t.Errorf("%q: a Fault is kept", names)
			}
		}
	}
}

// P17.1: what any names are, as the document words it.
func FuzzPaths(f *testing.F) {
	f.Add("r", "a\nb/c\na.b")
	f.Add("", "a\na/b")
	f.Add("r/s", "a\nA\na")
	f.Add(".", strings.Repeat("a\n", 20))
	f.Fuzz(func(t *testing.T, root, text string) {
		names := strings.Split(text, "\n")
		names = names[:min(len(names), 200)]
		var want []string
		wrong := false
		for _, name := range names {
			p, err := path.Join(root, name)
			wrong = wrong || err != nil
			want = append(want, p)
		}
		errno, at := api.ErrPath, -1
		if !wrong {
			_, err := path.Set(want...)
			errno, at = code.Number(err), code.Place(err)
		}
		if errno != api.OK {
			want = nil
		}
		got, err := push.Paths(home(root), names...)
		if !slices.Equal(got, want) || code.Number(err) != errno || (err == nil) != (errno == api.OK) || at >= 0 && code.Place(err) != at {
			t.Errorf("%q, %q: %q, %v, not %q, %d", root, names, got, err, want, errno)
		}
		if len(names) > 16 {
			errno = api.ErrRange
		}
		j, err := push.New(view.New(), home(root), names...)
		if code.Number(err) != errno || (j != nil) != (errno == api.OK) {
			t.Errorf("New: %q, %q: %v, not %d", root, names, err, errno)
		}
	})
}
