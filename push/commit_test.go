package push_test

import (
	"fmt"
	"testing"

	"wharfinger/api"
	"wharfinger/conf"
	"wharfinger/probe"
	"wharfinger/push"
	"wharfinger/tree"
	"wharfinger/view"
)

// of: home, with this quota.
func of(root string, quota int) conf.Module {
	m := home(root)
	m.Quota = quota
	return m
}

// P17.4: the document's example.
func TestExample(t *testing.T) {
	s := view.New()
	j := begin(t, s, home("r"), "f")
	full(t, j, "text")
	commit(t, j, 1, api.OK)
	holds(t, s, 1, map[string]string{"r/f": "text"})
}

// P17.4: how many are left, and the changes, in the order of the files, however they come.
func TestLeftAndChanges(t *testing.T) {
	s := kept(t, put("r/c", "c"), put("r/b", "old text"))
	j := begin(t, s, home("r"), "c", "a", "b", "d")
	step := func(e api.Errno, left int, want ...tree.Change) {
		t.Helper()
		if e != api.OK || j.Left() != left || !sameChanges(j.Changes(), want) || j.Len() != 4 {
			t.Errorf("%d, %d left, %v", e, j.Left(), j.Changes())
		}
		commit(t, j, 0, api.ErrPhase)
		holds(t, s, 1, map[string]string{"r/c": "c", "r/b": "old text"})
	}
	step(api.OK, 4)
	step(j.Full(3, []byte("d")), 3, put("r/d", "d"))
	step(j.Gone(0), 2, gone("r/c"), put("r/d", "d"))
	_, e := j.Tell(2, told([]byte("old text!"), probe.Blocks(0, 1), probe.Text("!")))
	step(e, 1, gone("r/c"), put("r/b", "old text!"), put("r/d", "d"))
	last := []tree.Change{gone("r/c"), put("r/a", ""), put("r/b", "old text!"), put("r/d", "d")}
	if e := j.Full(1, nil); e != api.OK || j.Left() != 0 || !sameChanges(j.Changes(), last) {
		t.Errorf("%d, %d left, %v", e, j.Left(), j.Changes())
	}
	commit(t, j, 2, api.OK)
	if j.Left() != 0 || j.Len() != 4 || !sameChanges(j.Changes(), last) {
		t.Errorf("behind Commit: %d left, %v", j.Left(), j.Changes())
	}
	holds(t, s, 2, map[string]string{"r/a": "", "r/b": "old text!", "r/d": "d"})
}

// P17.4: a job is committed once, whatever comes behind it.
func TestCommitOnce(t *testing.T) {
	s := kept(t, put("x", "x"))
	j := begin(t, s, of("r", 4), "a")
	full(t, j, "text")
	commit(t, j, 2, api.OK)
	commit(t, j, 0, api.ErrPhase)
	if _, err := s.Commit(put("r/b", "more than the quota")); err != nil {
		t.Fatal(err)
	}
	commit(t, j, 0, api.ErrPhase)
	holds(t, s, 3, map[string]string{"x": "x", "r/a": "text", "r/b": "more than the quota"})
}

// P17.4: how many bytes there may be beneath the root, just as many, and one too many.
func TestQuota(t *testing.T) {
	for _, c := range []struct {
		name   string
		root   string
		before []tree.Change
		names  []string
		send   []string // "-": gone
		bytes  int      // that there would be beneath the root
	}{
		{"one file", "r", nil, []string{"a"}, []string{"12345"}, 5},
		{"an empty file", "r", nil, []string{"a"}, []string{""}, 0},
		{"some files", "r", nil, []string{"a", "b/c", "d"}, []string{"12", "345", ""}, 5},
		{"beside others", "r", []tree.Change{put("r/x", "1234"), put("r/y/z", "56")}, []string{"a"}, []string{"789"}, 9},
		{"one is longer now", "r", []tree.Change{put("r/a", "12"), put("r/x", "3")}, []string{"a"}, []string{"12345"}, 6},
		{"one is shorter now", "r", []tree.Change{put("r/a", "12345"), put("r/x", "3")}, []string{"a"}, []string{"12"}, 3},
		{"one is as it was", "r", []tree.Change{put("r/a", "12345")}, []string{"a"}, []string{"12345"}, 5},
		{"one is gone", "r", []tree.Change{put("r/a", "12345"), put("r/x", "3")}, []string{"a"}, []string{"-"}, 1},
		{"all are gone", "r", []tree.Change{put("r/a", "12345"), put("r/x", "3")}, []string{"a", "x"}, []string{"-", "-"}, 0},
		{"one for another", "r", []tree.Change{put("r/a", "12345"), put("r/x", "3")}, []string{"a", "b"}, []string{"-", "1234567"}, 8},
		{"others are not beneath it", "r", []tree.Change{put("r.a/a", "12345"), put("rr/a", "67"), put("s/r/a", "8")}, []string{"a"}, []string{"123"}, 3},
		{"a root in a root", "r/s", []tree.Change{put("r/a", "12345"), put("r/s/b", "67"), put("r/ss", "8")}, []string{"a"}, []string{"123"}, 5},
		{"a file at an other root", "r", []tree.Change{put("s", "12345")}, []string{"s"}, []string{"123"}, 3},
		{"all of the tree", "", []tree.Change{put("r/a", "12345"), put("s", "67")}, []string{"r/a", "b"}, []string{"123", "4"}, 6},
	} {
		for _, over := range []int{-2, -1, 0, 1, 100} {
			s := kept(t, c.before...)
			was := files(s)
			j := begin(t, s, of(c.root, c.bytes+over), c.names...)
			for i, data := range c.send {
				e := api.OK
				if data == "-" {
					e = j.Gone(i)
				} else {
					e = j.Full(i, []byte(data))
				}
				if e != api.OK {
					t.Fatalf("%s: %d", c.name, e)
				}
			}
			if over < 0 {
				commit(t, j, 0, api.ErrQuota)
				commit(t, j, 0, api.ErrQuota)
				holds(t, s, 1, was)
				continue
			}
			commit(t, j, 2, api.OK)
			if n := s.Bytes(2, c.root); n != c.bytes {
				t.Errorf("%s: %d bytes", c.name, n)
			}
		}
	}
}

// P17.4: that some weren't sent is told ahead of the quota, and that ahead of what the tree has against it.
func TestCommitWhyFirst(t *testing.T) {
	s := kept(t, put("r/a/b", "12345"))
	j := begin(t, s, of("r", 9), "a", "c")
	full(t, j, "67890")
	commit(t, j, 0, api.ErrPhase)
	j.Full(1, nil)
	commit(t, j, 0, api.ErrQuota)
	j = begin(t, s, of("r", 10), "a", "c")
	full(t, j, "67890", "")
	commit(t, j, 0, api.ErrPath)
	holds(t, s, 1, map[string]string{"r/a/b": "12345"})
}

// P17.4: what the tree has against it: paths that clash with files that stay.
func TestCommitClash(t *testing.T) {
	for _, c := range []struct {
		before, name string
		want         api.Errno
	}{
		{"r/a", "a/b", api.ErrPath},
		{"r/a/b", "a", api.ErrPath},
		{"r", "a", api.ErrPath},
		{"r/a.b", "a", api.OK},
		{"r/a", "a", api.OK},
		{"ra/b", "a", api.OK},
	} {
		s := kept(t, put(c.before, "x"))
		j := begin(t, s, home("r"), "z", c.name)
		full(t, j, "z", "y")
		version, e := j.Commit()
		if e != c.want || (version == 2) != (e == api.OK) || s.Now() != 1+version/2 {
			t.Errorf("%q, %q: %d, %d", c.before, c.name, version, e)
		}
		if e != api.OK {
			holds(t, s, 1, map[string]string{c.before: "x"})
		}
	}
}

// P17.4: what the tree has against it: too many files, or bytes; the quota is a module's alone.
func TestCommitFull(t *testing.T) {
	var list []tree.Change
	for i := range 63 {
		list = append(list, put(fmt.Sprint("s/f", i), ""))
	}
	s := kept(t, list...)
	j := begin(t, s, home("r"), "a", "b")
	full(t, j, "a", "b")
	commit(t, j, 0, api.ErrFull)
	if s.Now() != 1 || len(files(s)) != 63 {
		t.Errorf("at %d: %d files", s.Now(), len(files(s)))
	}
	j = begin(t, s, home("r"), "a")
	full(t, j, "a")
	commit(t, j, 2, api.OK)
	big := kept(t, put("s/big", string(make([]byte, 1<<18-3))))
	for _, quota := range []int{4, 1 << 18, 1 << 40} {
		j = begin(t, big, of("r", quota), "a")
		full(t, j, "1234")
		commit(t, j, 0, api.ErrFull)
	}
	j = begin(t, big, of("", 1<<40), "s/big", "a")
	full(t, j, "less", "1234")
	commit(t, j, 2, api.OK)
}

// P17.4, P2: nothing is changed by an error: who has room later is committed as they are.
func TestCommitLater(t *testing.T) {
	s := kept(t, put("r/x", "12345"), put("r/a/b", "c"))
	j := begin(t, s, of("r", 8), "a", "c")
	full(t, j, "1234", "5678")
	tried := func(want api.Errno) {
		t.Helper()
		commit(t, j, 0, want)
		if j.Left() != 0 || !sameChanges(j.Changes(), changes(put("r/a", "1234"), put("r/c", "5678"))) || j.Full(0, nil) != api.ErrTwice || j.Full(2, nil) != api.ErrRange {
			t.Errorf("%d left, %v", j.Left(), j.Changes())
		}
	}
	tried(api.ErrQuota)
	s.Commit(gone("r/x"), put("r/a/b", ""))
	tried(api.ErrPath)
	s.Commit(gone("r/a/b"))
	commit(t, j, 4, api.OK)
	holds(t, s, 4, map[string]string{"r/a": "1234", "r/c": "5678"})
}

// P17.4: all of them are there at once: the version ahead is as it was, if it is looked at, and forgotten else.
func TestCommitIsAVersion(t *testing.T) {
	s := kept(t, put("r/a", "old"), put("r/b", "old"))
	if version, e := s.Pin(); version != 1 || e != api.OK {
		t.Fatal(version, e)
	}
	for i := range 3 {
		j := begin(t, s, home("r"), "b", "a")
		full(t, j, fmt.Sprint("b", i), fmt.Sprint("a", i))
		commit(t, j, i+2, api.OK)
		holds(t, s, i+2, map[string]string{"r/a": fmt.Sprint("a", i), "r/b": fmt.Sprint("b", i)})
		if s.States() != 4 {
			t.Errorf("%d states", s.States())
		}
	}
	if data, e := s.Read(1, "r/a"); string(data) != "old" || e != api.OK {
		t.Errorf("%q, %d", data, e)
	}
	if _, e := s.Read(3, "r/a"); e != api.ErrGone {
		t.Errorf("3: %d", e)
	}
}

// P17.4: a job of as many files as can be, each as long as can be.
func TestMostFiles(t *testing.T) {
	s := view.New()
	var names []string
	for i := range 16 {
		names = append(names, fmt.Sprint("f", i))
	}
	for round := range 2 {
		j := begin(t, s, of("r", 16*8192), names...)
		for i := range 16 {
			if e := j.Full(15-i, probe.Bytes(8192-round)); e != api.OK || j.Left() != 15-i {
				t.Fatalf("%d: %d", i, e)
			}
		}
		commit(t, j, round+1, api.OK)
		if n := s.Bytes(s.Now(), "r"); n != 16*(8192-round) {
			t.Errorf("%d bytes", n)
		}
	}
	j, err := push.New(s, of("r", 16*8192), append(names[:15:15], "one more")...)
	if j != nil || err == nil {
		t.Error("a name that is none")
	}
	j = begin(t, s, of("r", 16*8192), "more")
	full(t, j, string(make([]byte, 8192)))
	commit(t, j, 0, api.ErrQuota)
}

// P2, rule 4: each list of changes is new memory.
func TestChangesShareNothing(t *testing.T) {
	s := view.New()
	j := begin(t, s, home("r"), "a", "b", "c")
	tell(t, j, 0, told([]byte("told"), probe.Text("told")), false, api.OK)
	j.Full(1, []byte("full"))
	want := []tree.Change{put("r/a", "told"), put("r/b", "full")}
	spoil := func(list []tree.Change) {
		list = list[:cap(list)]
		for i := range list {
			probe.Spoil(list[i].Data)
			list[i] = gone("spoilt")
		}
	}
	first, second := j.Changes(), j.Changes()
	spoil(first)
	if !sameChanges(second, want) || !sameChanges(j.Changes(), want) {
		t.Errorf("%v, %v", second, j.Changes())
	}
	j.Full(2, nil)
	commit(t, j, 1, api.OK)
	spoil(j.Changes())
	holds(t, s, 1, map[string]string{"r/a": "told", "r/b": "full", "r/c": ""})
	if !sameChanges(j.Changes(), append(want, put("r/c", ""))) {
		t.Errorf("%v", j.Changes())
	}
}

// P2, rule 4: what is written into the module later doesn't count.
func TestModuleIsNotKept(t *testing.T) {
	m := of("r", 4)
	m.Users = []conf.User{{Name: "u", Secret: "s"}}
	s := view.New()
	j := begin(t, s, m, "a")
	m.Root, m.Quota, m.Write, m.Users[0].Name = "s", 0, false, "v"
	full(t, j, "1234")
	commit(t, j, 1, api.OK)
	holds(t, s, 1, map[string]string{"r/a": "1234"})
}
