package tree_test

import (
	"bytes"
	"fmt"
	"math"
	"slices"
	"testing"

	"wharfinger/api"
	"wharfinger/probe"
	"wharfinger/tree"
)

// The calls keep the document's signatures, the limits their values.
var (
	_ func() *tree.Tree                                   = tree.New
	_ func(*tree.Tree) int                                = (*tree.Tree).Now
	_ func(*tree.Tree, int, string) ([]byte, api.Errno)   = (*tree.Tree).Read
	_ func(*tree.Tree, int, string) ([]string, api.Errno) = (*tree.Tree).List
	_ func(*tree.Tree, int, string) int                   = (*tree.Tree).Bytes
	_ func(*tree.Tree, ...tree.Change) error              = (*tree.Tree).Check
	_ func(*tree.Tree, ...tree.Change) (int, error)       = (*tree.Tree).Commit
	_ func(*tree.Tree, ...int) int                        = (*tree.Tree).Forget
	_ func(*tree.Tree) int                                = (*tree.Tree).States
	_ [64]struct{}                                        = [tree.MaxFiles]struct{}{}
	_ [262144]struct{}                                    = [tree.MaxBytes]struct{}{}
	_ [1048576]struct{}                                   = [tree.MaxVersion]struct{}{}
	_                                                     = tree.Change{Path: "", Data: []byte(nil), Gone: false}
)

func put(p, data string) tree.Change { return tree.Change{Path: p, Data: []byte(data)} }

func gone(p string) tree.Change { return tree.Change{Path: p, Gone: true} }

// grown: a tree after these commits, which can all be.
func grown(t *testing.T, commits ...[]tree.Change) *tree.Tree {
	t.Helper()
	x := tree.New()
	for i, list := range commits {
		if version, err := x.Commit(list...); version != i+1 || err != nil {
			t.Fatalf("Commit %d: %d, %v", i, version, err)
		}
	}
	return x
}

// P10.1: a new tree.
func TestNew(t *testing.T) {
	x := tree.New()
	list, e := x.List(0, "")
	if x.Now() != 0 || x.States() != 0 || e != api.OK || len(list) > 0 || x.Bytes(0, "") != 0 {
		t.Errorf("Now %d, States %d, List %q, %d, Bytes %d", x.Now(), x.States(), list, e, x.Bytes(0, ""))
	}
	if _, e := x.Read(0, "a"); e != api.ErrMissing {
		t.Errorf("Read: %d", e)
	}
	if x.Forget() != 0 || x.Forget(0) != 0 || x.Now() != 0 {
		t.Error("Forget")
	}
}

// P10.1, P10.2: the document's example.
func TestExample(t *testing.T) {
	x := grown(t, []tree.Change{put("a", "x")}, []tree.Change{put("a", "y")})
	for version, want := range []string{"", "x", "y"} {
		e := api.OK
		if version == 0 {
			e = api.ErrMissing
		}
		if b, got := x.Read(version, "a"); string(b) != want || got != e {
			t.Errorf("at %d: %q, %d", version, b, got)
		}
	}
}

// some: a tree with four versions beside the first.
func some(t *testing.T) *tree.Tree {
	return grown(t,
		[]tree.Change{put("r/b", "one"), put("r/a/c", "two22"), put("r.x", ""), put("s", "4444")},
		nil,
		[]tree.Change{gone("r/b"), put("r/a/c", "3"), put("r/b/d", "66")},
		[]tree.Change{gone("r/b/d"), put("r/b", "one")},
	)
}

// P10.2: files at each version.
func TestRead(t *testing.T) {
	x := some(t)
	for _, c := range []struct {
		version int
		p, want string
		e       api.Errno
	}{
		{0, "s", "", api.ErrMissing},
		{1, "s", "4444", api.OK},
		{2, "s", "4444", api.OK},
		{4, "s", "4444", api.OK},
		{2, "r/b", "one", api.OK},
		{3, "r/b", "", api.ErrMissing},
		{4, "r/b", "one", api.OK},
		{2, "r/b/d", "", api.ErrMissing},
		{3, "r/b/d", "66", api.OK},
		{4, "r/b/d", "", api.ErrMissing},
		{2, "r/a/c", "two22", api.OK},
		{3, "r/a/c", "3", api.OK},
		{4, "r.x", "", api.OK},
		{4, "r", "", api.ErrMissing},
		{4, "r/", "", api.ErrMissing},
		{4, "", "", api.ErrMissing},
		{4, "\xff", "", api.ErrMissing},
		{5, "s", "", api.ErrRange},
		{-1, "s", "", api.ErrRange},
		{5, "none", "", api.ErrRange},
		{math.MaxInt, "s", "", api.ErrRange},
		{math.MinInt, "s", "", api.ErrRange},
	} {
		if b, e := x.Read(c.version, c.p); string(b) != c.want || e != c.e {
			t.Errorf("%d, %q: %q, %d", c.version, c.p, b, e)
		}
	}
}

// P10.2: the paths beneath a root, and how many bytes are there.
func TestListAndBytes(t *testing.T) {
	x := some(t)
	for _, c := range []struct {
		version int
		root    string
		list    []string
		size    int
		e       api.Errno
	}{
		{0, "", nil, 0, api.OK},
		{1, "", []string{"r.x", "r/a/c", "r/b", "s"}, 12, api.OK},
		{2, "", []string{"r.x", "r/a/c", "r/b", "s"}, 12, api.OK},
		{3, "", []string{"r.x", "r/a/c", "r/b/d", "s"}, 7, api.OK},
		{4, "", []string{"r.x", "r/a/c", "r/b", "s"}, 8, api.OK},
		{1, "r", []string{"r/a/c", "r/b"}, 8, api.OK},
		{3, "r", []string{"r/a/c", "r/b/d"}, 3, api.OK},
		{3, "r/b", []string{"r/b/d"}, 2, api.OK},
		{4, "r/b", nil, 0, api.OK},
		{4, "r/", nil, 0, api.OK},
		{4, "/", nil, 0, api.OK},
		{4, "s", nil, 0, api.OK},
		{4, "none", nil, 0, api.OK},
		{4, "\xff//", nil, 0, api.OK},
		{5, "", nil, 0, api.ErrRange},
		{-1, "", nil, 0, api.ErrRange},
		{math.MaxInt, "r", nil, 0, api.ErrRange},
		{math.MinInt, "r", nil, 0, api.ErrRange},
	} {
		if list, e := x.List(c.version, c.root); !slices.Equal(list, c.list) || e != c.e {
			t.Errorf("List %d, %q: %q, %d", c.version, c.root, list, e)
		}
		if n := x.Bytes(c.version, c.root); n != c.size {
			t.Errorf("Bytes %d, %q: %d", c.version, c.root, n)
		}
	}
}

// P10.1, P10.3: every change is a state, one that changes nothing too; a commit without any is a version.
func TestStates(t *testing.T) {
	x := grown(t, []tree.Change{put("a", "x"), put("b", "")}, []tree.Change{put("a", "x")}, nil, []tree.Change{gone("a")})
	if x.States() != 4 || x.Now() != 4 {
		t.Errorf("States %d, Now %d", x.States(), x.Now())
	}
}

// refused: what can't be committed, and why; the tree has a, b/c and d/e.
func refused() []struct {
	name string
	list []tree.Change
	want api.Fault
} {
	return []struct {
		name string
		list []tree.Change
		want api.Fault
	}{
		{"no path", []tree.Change{put("", "x")}, api.Fault{At: 0, Err: api.ErrPath}},
		{"no path behind a good one", []tree.Change{put("z", ""), put("x//y", "x")}, api.Fault{At: 1, Err: api.ErrPath}},
		{"no path, and gone, with data", []tree.Change{{Path: "/", Gone: true, Data: []byte("x")}}, api.Fault{At: 0, Err: api.ErrPath}},
		{"no path, twice", []tree.Change{put("z", ""), put("Z", ""), put("Z", "")}, api.Fault{At: 1, Err: api.ErrPath}},
		{"twice", []tree.Change{put("z", "x"), put("y", ""), put("z", "x")}, api.Fault{At: 2, Err: api.ErrTwice}},
		{"put, then gone", []tree.Change{put("z", "x"), gone("z")}, api.Fault{At: 1, Err: api.ErrTwice}},
		{"gone, then put", []tree.Change{gone("a"), put("a", "x")}, api.Fault{At: 1, Err: api.ErrTwice}},
		{"gone twice", []tree.Change{gone("a"), gone("a")}, api.Fault{At: 1, Err: api.ErrTwice}},
		{"twice, and gone with data", []tree.Change{gone("a"), {Path: "a", Gone: true, Data: []byte("x")}}, api.Fault{At: 1, Err: api.ErrTwice}},
		{"gone with data", []tree.Change{{Path: "a", Gone: true, Data: []byte("x")}}, api.Fault{At: 0, Err: api.ErrForm}},
		{"gone with data, and missing", []tree.Change{{Path: "z", Gone: true, Data: []byte("x")}}, api.Fault{At: 0, Err: api.ErrForm}},
		{"missing", []tree.Change{put("z", ""), gone("y")}, api.Fault{At: 1, Err: api.ErrMissing}},
		{"missing, as it is gone", []tree.Change{gone("old")}, api.Fault{At: 0, Err: api.ErrMissing}},
		{"missing, as it is a front", []tree.Change{gone("b")}, api.Fault{At: 0, Err: api.ErrMissing}},
		{"the first of two", []tree.Change{gone("y"), put("", "")}, api.Fault{At: 0, Err: api.ErrMissing}},
		{"beneath a file that stays", []tree.Change{put("a/x", "")}, api.Fault{At: 1, Err: api.ErrPath}},
		{"above a file that stays", []tree.Change{put("z", ""), put("b", "")}, api.Fault{At: 2, Err: api.ErrPath}},
		{"two that are put", []tree.Change{put("z/y", ""), put("x", ""), put("z", "")}, api.Fault{At: 3, Err: api.ErrPath}},
		{"a clash, and a change that can't be", []tree.Change{put("a/x", ""), gone("y")}, api.Fault{At: 1, Err: api.ErrMissing}},
		{"a clash, and too many bytes", []tree.Change{put("a/x", string(make([]byte, 1<<18+1)))}, api.Fault{At: 1, Err: api.ErrPath}},
		{"too many bytes", []tree.Change{put("z", string(make([]byte, 1<<18)))}, api.Fault{At: 1, Err: api.ErrFull}},
		{"too many bytes, and missing", []tree.Change{put("z", string(make([]byte, 1<<19))), gone("y")}, api.Fault{At: 1, Err: api.ErrMissing}},
	}
}

// P10.3, P2: what can't be committed, and that nothing is changed by it.
func TestRefused(t *testing.T) {
	x, m := tree.New(), &model{}
	for _, list := range [][]tree.Change{{put("a", "1"), put("b/c", "22"), put("old", "")}, {put("d/e", "333"), gone("old")}} {
		if err := m.step(x, list, nil, false); err != nil {
			t.Fatal(err)
		}
	}
	for _, c := range refused() {
		if fault := probe.Fault(x.Check(c.list...)); fault != c.want {
			t.Errorf("%s: Check: %v", c.name, fault.Error())
		}
		if version, err := x.Commit(c.list...); version != 0 || probe.Fault(err) != c.want {
			t.Errorf("%s: Commit: %d, %v", c.name, version, err)
		}
		if err := m.same(x); err != nil {
			t.Errorf("%s: then: %v", c.name, err)
		}
		if !probe.NewFaults(func() error { return x.Check(c.list...) }) || !probe.NewFaults(func() error { _, err := x.Commit(c.list...); return err }) {
			t.Errorf("%s: a Fault is kept", c.name)
		}
	}
}

// P10.3: what just can be: a file in the room of one that is taken out, data that are none.
func TestTaken(t *testing.T) {
	for _, c := range []struct {
		name string
		list []tree.Change
	}{
		{"beneath one that goes", []tree.Change{gone("a"), put("a/x", "")}},
		{"beneath one that goes behind it", []tree.Change{put("a/x", ""), gone("a")}},
		{"above one that goes", []tree.Change{put("b", "x"), gone("b/c")}},
		{"empty data of one that goes", []tree.Change{{Path: "a", Gone: true, Data: []byte{}}}},
		{"no data", []tree.Change{{Path: "z"}}},
		{"names that only look alike", []tree.Change{put("ab", ""), put("a.b/c", ""), put("b.c", "")}},
		{"none", nil},
	} {
		x, m := tree.New(), &model{}
		first := []tree.Change{put("a", "1"), put("b/c", "22")}
		if err := m.step(x, first, nil, false); err != nil {
			t.Fatal(err)
		}
		if err := m.step(x, c.list, nil, false); err != nil || x.Now() != 2 {
			t.Errorf("%s: %v", c.name, err)
		}
		if err := m.same(x); err != nil {
			t.Errorf("%s: then: %v", c.name, err)
		}
	}
}

// P10.3: as many files as can be, and one too many.
func TestMostFiles(t *testing.T) {
	var list []tree.Change
	for i := range 65 {
		list = append(list, put(fmt.Sprintf("d%d/f", i), "x"))
	}
	x := tree.New()
	if fault := probe.Fault(x.Check(list...)); fault != (api.Fault{At: 65, Err: api.ErrFull}) {
		t.Errorf("65 at once: %v", fault.Error())
	}
	if version, err := x.Commit(list[:64]...); version != 1 || err != nil {
		t.Fatalf("64: %d, %v", version, err)
	}
	if fault := probe.Fault(x.Check(list[64])); fault != (api.Fault{At: 1, Err: api.ErrFull}) {
		t.Errorf("one more: %v", fault.Error())
	}
	if fault := probe.Fault(x.Check(put("d1/f", "y"))); fault != (api.Fault{}) {
		t.Errorf("another one: %v", fault.Error())
	}
	if version, err := x.Commit(list[64], gone("d0/f")); version != 2 || err != nil {
		t.Errorf("one more, and one less: %d, %v", version, err)
	}
	if names, e := x.List(2, ""); len(names) != 64 || e != api.OK || x.States() != 66 {
		t.Errorf("%d files, %d states", len(names), x.States())
	}
}

// P10.3: as many bytes as can be, and one too many.
func TestMostBytes(t *testing.T) {
	half := string(probe.Bytes(1 << 17))
	x := tree.New()
	if fault := probe.Fault(x.Check(put("a", half), put("b", half+"x"))); fault != (api.Fault{At: 2, Err: api.ErrFull}) {
		t.Errorf("a byte too many: %v", fault.Error())
	}
	if version, err := x.Commit(put("a", half), put("b", half)); version != 1 || err != nil {
		t.Fatalf("just as many: %d, %v", version, err)
	}
	if fault := probe.Fault(x.Check(put("c", "x"))); fault != (api.Fault{At: 1, Err: api.ErrFull}) {
		t.Errorf("one more: %v", fault.Error())
	}
	if version, err := x.Commit(put("c", ""), put("a", half[1:]), put("d", "x")); version != 2 || err != nil {
		t.Errorf("one more, and one less: %d, %v", version, err)
	}
	if version, err := x.Commit(put("c", half), gone("b")); version != 3 || err != nil || x.Bytes(3, "") != 1<<18 {
		t.Errorf("another half: %d, %v, %d bytes", version, err, x.Bytes(3, ""))
	}
	if b, e := x.Read(1, "b"); e != api.OK || string(b) != half || x.Bytes(1, "") != 1<<18 {
		t.Errorf("version 1: %d bytes", len(b))
	}
}

// P1, P10.3: many changes at once.
func TestManyChanges(t *testing.T) {
	var list []tree.Change
	for i := range 2000 {
		list = append(list, put(fmt.Sprint("f", i), ""))
	}
	x := tree.New()
	for _, c := range []struct {
		last tree.Change
		want api.Fault
	}{
		{put("z", ""), api.Fault{At: 2001, Err: api.ErrFull}},
		{put("f7/z", ""), api.Fault{At: 2001, Err: api.ErrPath}},
		{put("f7", ""), api.Fault{At: 2000, Err: api.ErrTwice}},
	} {
		if fault := probe.Fault(x.Check(append(slices.Clone(list), c.last)...)); fault != c.want {
			t.Errorf("%q: %v", c.last.Path, fault.Error())
		}
	}
}

// P10.3: as many versions as can be, and one too many, which a clash is told ahead of.
func TestMostVersions(t *testing.T) {
	x := tree.New()
	x.Commit(put("a", "x"))
	for x.Now() < 1<<20-1 {
		if version, err := x.Commit(); version != x.Now() || err != nil {
			t.Fatal(version, err)
		}
	}
	if version, err := x.Commit(put("a", "y")); version != 1<<20 || err != nil || x.Now() != 1<<20 {
		t.Fatalf("the last one: %d, %v", version, err)
	}
	for _, c := range []struct {
		list []tree.Change
		want api.Fault
	}{
		{nil, api.Fault{At: 0, Err: api.ErrFull}},
		{[]tree.Change{put("b", "")}, api.Fault{At: 1, Err: api.ErrFull}},
		{[]tree.Change{put("a/b", "")}, api.Fault{At: 1, Err: api.ErrPath}},
		{[]tree.Change{gone("b")}, api.Fault{At: 0, Err: api.ErrMissing}},
	} {
		if version, err := x.Commit(c.list...); version != 0 || probe.Fault(err) != c.want || x.Now() != 1<<20 {
			t.Errorf("%v: %d, %v", c.list, version, err)
		}
	}
	if b, e := x.Read(1<<20-1, "a"); string(b) != "x" || e != api.OK {
		t.Errorf("%q, %d", b, e)
	}
}

// P2, rule 4: what is handed in is as it was, its spare room too, and isn't kept; what is answered is new memory.
func TestNothingIsShared(t *testing.T) {
	room := []byte("dataspare room")
	list := []tree.Change{put("b", "y"), {Path: "a", Data: room[:4]}, put("spare", "room")}
	before := slices.Clone(list)
	x := tree.New()
	if err := x.Check(list[:2]...); err != nil {
		t.Fatal(err)
	}
	x.Commit(list[:2]...)
	for i := range list {
		if list[i].Path != before[i].Path || !bytes.Equal(list[i].Data, before[i].Data) || list[i].Gone {
			t.Errorf("the change %d became %v", i, list[i])
		}
	}
	if string(room) != "dataspare room" {
		t.Errorf("the data became %q", room)
	}
	probe.Spoil(room)
	list[0], list[1] = gone("x"), gone("y")
	first, _ := x.Read(1, "a")
	second, _ := x.Read(1, "a")
	probe.Spoil(first)
	third, _ := x.Read(1, "a")
	if string(second) != "data" || string(third) != "data" {
		t.Errorf("%q, %q", second, third)
	}
	names, _ := x.List(1, "")
	for i := range names[:cap(names)] {
		names[:cap(names)][i] = "spoilt"
	}
	if again, _ := x.List(1, ""); !slices.Equal(again, []string{"a", "b"}) {
		t.Errorf("%q", again)
	}
}

// P2, rule 4: trees have nothing to do with each other.
func TestTreesAreApart(t *testing.T) {
	x, y := tree.New(), tree.New()
	x.Commit(put("a", "x"))
	y.Commit(put("a", "other"), put("b", ""))
	y.Commit(gone("a"))
	y.Forget()
	if b, e := x.Read(1, "a"); string(b) != "x" || e != api.OK || x.Now() != 1 || x.States() != 1 {
		t.Errorf("%q, %d, Now %d, States %d", b, e, x.Now(), x.States())
	}
}
