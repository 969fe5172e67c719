package pull_test

import (
	"errors"
	"fmt"
	"slices"
	"strings"
	"testing"

	"wharfinger/api"
	"wharfinger/block"
	"wharfinger/code"
	"wharfinger/conf"
	"wharfinger/patch"
	"wharfinger/probe"
	"wharfinger/pull"
	"wharfinger/tree"
	"wharfinger/view"
	"wharfinger/word"
)

// The calls keep the document's signatures.
var (
	_ func(*view.Store, conf.Module, string) (*pull.Job, error)     = pull.New
	_ func(*pull.Job) int                                           = (*pull.Job).Version
	_ func(*pull.Job) []string                                      = (*pull.Job).Names
	_ func(*pull.Job) word.Word                                     = (*pull.Job).Word
	_ func(*pull.Job, int, block.Signature) (patch.Told, api.Errno) = (*pull.Job).Give
	_ func(*pull.Job, int) ([]byte, api.Errno)                      = (*pull.Job).Again
	_ func(*pull.Job) api.Errno                                     = (*pull.Job).End
)

func put(p, data string) tree.Change { return tree.Change{Path: p, Data: []byte(data)} }

func gone(p string) tree.Change { return tree.Change{Path: p, Gone: true} }

// home: a module with this root, which may not be written.
func home(root string) conf.Module {
	return conf.Module{Name: "home", Root: root, Slots: 1}
}

// commit: changes that can be are made.
func commit(t *testing.T, s *view.Store, list ...tree.Change) {
	t.Helper()
	if _, err := s.Commit(list...); err != nil {
		t.Fatal(err)
	}
}

// kept: a store whose last version, 1, has these files.
func kept(t *testing.T, list ...tree.Change) *view.Store {
	t.Helper()
	s := view.New()
	commit(t, s, list...)
	return s
}

// begin: a job that can be, of the last version.
func begin(t *testing.T, s *view.Store, m conf.Module, root string) *pull.Job {
	t.Helper()
	j, err := pull.New(s, m, root)
	if err != nil || j == nil || j.Version() != s.Now() || !slices.Contains(s.Pinned(), s.Now()) {
		t.Fatalf("New %q, %q: %v", m.Root, root, err)
	}
	return j
}

// again: that a file is answered whole.
func again(t *testing.T, j *pull.Job, i int, want string) {
	t.Helper()
	if b, e := j.Again(i); e != api.OK || string(b) != want {
		t.Errorf("Again %d: %.40q, %d, not %.40q", i, b, e, want)
	}
}

// end: a job is over, and that is the answer.
func end(t *testing.T, j *pull.Job, want api.Errno) {
	t.Helper()
	if e := j.End(); e != want {
		t.Errorf("End: %d, not %d", e, want)
	}
}

// looked: that just these versions are looked at.
func looked(t *testing.T, s *view.Store, want ...int) {
	t.Helper()
	if got := s.Pinned(); !slices.Equal(got, want) {
		t.Errorf("Pinned: %v, not %v", got, want)
	}
}

// some: a store whose version 1 has files beneath r, beside it, and at paths that begin likewise.
func some(t *testing.T) *view.Store {
	t.Helper()
	return kept(t, put("r/b", "1"), put("r/a/x", "2"), put("r/a/b/y", "3"), put("r/a.b", "4"), put("r/a-b/x", "5"),
		put("r/r/a", "6"), put("ra/x", "7"), put("r.a", "8"), put("s", "9"), put("a/x", "0"))
}

// P18.1 to P18.3: the document's example.
func TestExample(t *testing.T) {
	s := kept(t, put("r/a", "as it was"))
	j := begin(t, s, home("r"), "")
	commit(t, s, put("r/a", "later"), put("r/b", "new"))
	again(t, j, 0, "as it was")
	commit(t, s, gone("r/a"))
	again(t, j, 0, "as it was")
	if n := j.Names(); j.Version() != 1 || !slices.Equal(n, []string{"a"}) {
		t.Errorf("%d, %q", j.Version(), n)
	}
	looked(t, s, 1)
	end(t, j, api.OK)
	looked(t, s)
}

// P18.1: which files there are, their paths in the module, in their order.
func TestNames(t *testing.T) {
	all := []string{"a-b/x", "a.b", "a/b/y", "a/x", "b", "r/a"}
	for _, c := range []struct {
		module, root string
		want         []string
	}{
		{"r", "", all},
		{"r", "a", []string{"a/b/y", "a/x"}},
		{"r", "a/b", []string{"a/b/y"}},
		{"r", "a/b/y", []string{"a/b/y"}},
		{"r", "a/x", []string{"a/x"}},
		{"r", "a/b/y/z", nil},
		{"r", "a.b", []string{"a.b"}},
		{"r", "a-b", []string{"a-b/x"}},
		{"r", "b", []string{"b"}},
		{"r", "b/x", nil},
		{"r", "r", []string{"r/a"}},
		{"r", "none", nil},
		{"r/a", "", []string{"b/y", "x"}},
		{"r/a", "b", []string{"b/y"}},
		{"r/a", "x", []string{"x"}},
		{"r/r", "", []string{"a"}},
		{"r/r", "a", []string{"a"}},
		{"ra", "", []string{"x"}},
		{"a", "x", []string{"x"}},
		{"s", "", nil}, // a file at the root itself
		{"s", "s", nil},
		{"r.a", "", nil},
		{"r/b", "", nil},
		{"none", "", nil},
		{"none", "a", nil},
		{"", "", []string{"a/x", "r.a", "r/a-b/x", "r/a.b", "r/a/b/y", "r/a/x", "r/b", "r/r/a", "ra/x", "s"}},
		{"", "r", []string{"r/a-b/x", "r/a.b", "r/a/b/y", "r/a/x", "r/b", "r/r/a"}},
		{"", "s", []string{"s"}},
		{"", "r/a", []string{"r/a/b/y", "r/a/x"}},
		{"no path/", "", nil}, // without a root it isn't looked at whether that is one
		{"r/", "", nil},
		{"/", "", nil},
		{"R", "", nil},
		{letters(65), "", nil},
	} {
		s := some(t)
		j := begin(t, s, home(c.module), c.root)
		got, w := j.Names(), j.Word()
		if j.Version() != 1 || !slices.Equal(got, c.want) {
			t.Errorf("%q, %q: %d, %q, not %q", c.module, c.root, j.Version(), got, c.want)
		}
		if w.Kind != word.List || w.Num != 1 || !slices.Equal(w.Paths, c.want) {
			t.Errorf("%q, %q: %v", c.module, c.root, w)
		}
		for i, name := range c.want {
			want, _ := s.Read(1, strings.TrimPrefix(c.module+"/"+name, "/"))
			again(t, j, i, string(want))
		}
		if _, e := j.Again(len(c.want)); e != api.ErrRange {
			t.Errorf("%q, %q: one file more: %d", c.module, c.root, e)
		}
		looked(t, s, 1)
	}
}

// letters: a text with so many bytes, in segments that are as long as can be.
func letters(n int) string {
	p := strings.Repeat("abcdefghijklmnop/", n/17+1)
	return p[:n]
}

// P18.1: roots that can't be; no version is looked at by that.
func TestNewWrong(t *testing.T) {
	for _, c := range []struct {
		module, root string
		want         bool // it can be
	}{
		{"r", "a//", false},
		{"r", "/", false},
		{"r", "/a", false},
		{"r", "a/", false},
		{"r", ".", false},
		{"r", "..", false},
		{"r", "a/../b", false},
		{"r", "A", false},
		{"r", "a b", false},
		{"r", "\xff", false},
		{"r", "\x00", false},
		{"", "a//", false},
		{"", "/", false},
		{"", "..", false},
		{"no path", "a", false},
		{"r/", "a", false},
		{"/", "a", false},
		{"..", "a", false},
		{"r", "abcdefghijklmnop", true},
		{"r", "abcdefghijklmnopq", false},
		{"r", "a/b/c/d/e", true},
		{"r", "a/b/c/d/e/f", false},
		{"", "a/b/c/d/e/f", true},
		{"a/b/c/d/e", "f", true},
		{"a/b/c/d/e/f", "g", false},
		{"r", letters(62), true},
		{"r", letters(63), false},
		{"", letters(64), true},
		{"", letters(65), false},
		{"r", strings.Repeat("a", 1<<20), false},
	} {
		s := some(t)
		j, err := pull.New(s, home(c.module), c.root)
		if c.want {
			if j == nil || err != nil || len(j.Names()) > 0 {
				t.Errorf("%q, %q: %v", c.module, c.root, err)
			}
			looked(t, s, 1)
			continue
		}
		if j != nil || !errors.Is(err, api.ErrPath) || code.Number(err) != api.ErrPath {
			t.Errorf("%q, %.80q: %v", c.module, c.root, err)
		}
		looked(t, s)
	}
}

// P18.1: as many looks as there can be, and one too many, which a wrong root is told ahead of.
func TestNewFull(t *testing.T) {
	s := some(t)
	var jobs []*pull.Job
	for range 64 {
		jobs = append(jobs, begin(t, s, home("r"), "a"))
	}
	refused := func(root string, want api.Errno) {
		t.Helper()
		if j, err := pull.New(s, home("r"), root); j != nil || !errors.Is(err, want) || code.Number(err) != want {
			t.Errorf("%q: %v, not %d", root, err, want)
		}
	}
	for range 2 {
		refused("", api.ErrFull)
		refused("a", api.ErrFull)
		refused("none", api.ErrFull)
		refused("a//b", api.ErrPath)
	}
	commit(t, s, put("r/new", ""))
	refused("", api.ErrFull)
	end(t, jobs[7], api.OK)
	begin(t, s, home("r"), "")
	refused("", api.ErrFull)
	looked(t, s, 1, 2)
	for i, j := range jobs {
		if i != 7 {
			again(t, j, 1, "2")
			end(t, j, api.OK)
		}
	}
	looked(t, s, 2)
}

// P18.1: there is a job of a version without files, too, and of any module, whatever it allows.
func TestNewOfAny(t *testing.T) {
	s := view.New()
	for _, m := range []conf.Module{{}, home("r"), {Root: "r", Write: true, Slots: -1, Quota: -1}} {
		for _, root := range []string{"", "a"} {
			j := begin(t, s, m, root)
			if j.Version() != 0 || len(j.Names()) > 0 || j.Word().Kind != word.List || len(j.Word().Paths) > 0 {
				t.Errorf("%v, %q: %d, %q", m, root, j.Version(), j.Names())
			}
			end(t, j, api.OK)
		}
	}
	commit(t, s, put("r/a", "x"))
	j := begin(t, s, conf.Module{Root: "r", Quota: -1}, "")
	again(t, j, 0, "x")
}

// P18.1: the word can be said, of as many files as there can be, with names as long as can be.
func TestWord(t *testing.T) {
	var list []tree.Change
	for i := range 64 {
		list = append(list, put("r/"+letters(51)+fmt.Sprint("longname-", 10+i), "x"))
	}
	s := kept(t, list...)
	for _, c := range []struct {
		module string
		length int
	}{{"r", 62}, {"", 64}} {
		j := begin(t, s, home(c.module), "")
		w := j.Word()
		f, e := w.Frame() // a frame, so that nothing else is in it
		if e != api.OK || len(w.Paths) != 64 || len(w.Paths[63]) != c.length {
			t.Fatalf("%q: %d paths, %d", c.module, len(w.Paths), e)
		}
		if back, err := word.Read(f); err != nil || back.Num != 1 || !slices.Equal(back.Paths, j.Names()) {
			t.Errorf("%q: %v, %v", c.module, back, err)
		}
	}
}

// P18.1, P18.2: jobs of one store have each their version, and their files.
func TestJobsAreApart(t *testing.T) {
	s := kept(t, put("r/a", "a1"), put("s/a", "s1"))
	one, other := begin(t, s, home("r"), ""), begin(t, s, home("s"), "a")
	commit(t, s, put("r/a", "a2"), put("r/b", "b2"))
	two := begin(t, s, home("r"), "")
	commit(t, s, gone("r/a"), put("r/c", "c3"))
	three := begin(t, s, home("r"), "")
	looked(t, s, 1, 2, 3)
	for _, c := range []struct {
		j       *pull.Job
		version int
		names   []string
		data    []string
	}{
		{one, 1, []string{"a"}, []string{"a1"}},
		{other, 1, []string{"a"}, []string{"s1"}},
		{two, 2, []string{"a", "b"}, []string{"a2", "b2"}},
		{three, 3, []string{"b", "c"}, []string{"b2", "c3"}},
	} {
		if w := c.j.Word(); c.j.Version() != c.version || !slices.Equal(c.j.Names(), c.names) || w.Num != c.version {
			t.Errorf("%d, %q, %v, not %d, %q", c.j.Version(), c.j.Names(), w, c.version, c.names)
		}
		for i, data := range c.data {
			again(t, c.j, i, data)
		}
	}
	end(t, one, api.OK)
	again(t, other, 0, "s1")
	looked(t, s, 1, 2, 3)
	end(t, two, api.OK)
	end(t, other, api.OK)
	again(t, three, 0, "b2")
	looked(t, s, 3)
}

// P18.1, P2: a module that is changed later doesn't change the job.
func TestModuleIsNotKept(t *testing.T) {
	m := home("r")
	j := begin(t, some(t), m, "a")
	m.Root, m.Name = "ra", "other"
	if n := j.Names(); !slices.Equal(n, []string{"a/b/y", "a/x"}) {
		t.Errorf("%q", n)
	}
	again(t, j, 1, "2")
}

// P2: an error that was written into isn't kept.
func TestErrorsAreNew(t *testing.T) {
	s := some(t)
	for _, root := range []string{"a//b", "A", letters(64)} {
		if !probe.NewFaults(func() error { _, err := pull.New(s, home("r"), root); return err }) {
			t.Errorf("%q: a Fault is kept", root)
		}
	}
}
