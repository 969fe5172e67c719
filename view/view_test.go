package view_test

import (
	"fmt"
	"math"
	"slices"
	"testing"

	"wharfinger/api"
	"wharfinger/probe"
	"wharfinger/tree"
	"wharfinger/view"
)

// The calls keep the document's signatures, the Tree's that are promoted too; the limit keeps its value.
var (
	_ func() *view.Store                                   = view.New
	_ func(*view.Store) (int, api.Errno)                   = (*view.Store).Pin
	_ func(*view.Store, int) api.Errno                     = (*view.Store).Unpin
	_ func(*view.Store) []int                              = (*view.Store).Pinned
	_ func(*view.Store, int, string) ([]byte, api.Errno)   = (*view.Store).Read
	_ func(*view.Store, int, string) ([]string, api.Errno) = (*view.Store).List
	_ func(*view.Store, ...tree.Change) (int, error)       = (*view.Store).Commit
	_ func(*view.Store) int                                = (*view.Store).Now
	_ func(*view.Store, int, string) int                   = (*view.Store).Bytes
	_ func(*view.Store, ...tree.Change) error              = (*view.Store).Check
	_ func(*view.Store) int                                = (*view.Store).States
	_ [64]struct{}                                         = [view.MaxPins]struct{}{}
)

func put(p, data string) tree.Change { return tree.Change{Path: p, Data: []byte(data)} }

func gone(p string) tree.Change { return tree.Change{Path: p, Gone: true} }

// commit: changes that can be are made.
func commit(t *testing.T, s *view.Store, list ...tree.Change) {
	t.Helper()
	want := s.Now() + 1
	if version, err := s.Commit(list...); version != want || err != nil || s.Now() != want {
		t.Fatalf("Commit: %d, %v, not %d", version, err, want)
	}
}

// pin: the last version is looked at, so often.
func pin(t *testing.T, s *view.Store, times int) {
	t.Helper()
	for range times {
		if version, e := s.Pin(); version != s.Now() || e != api.OK {
			t.Fatalf("Pin: %d, %d, not %d", version, e, s.Now())
		}
	}
}

// P11.1: a new one.
func TestNew(t *testing.T) {
	s := view.New()
	if s.Now() != 0 || s.States() != 0 || s.Bytes(0, "") != 0 || len(s.Pinned()) > 0 || s.Unpin(0) != api.ErrMissing {
		t.Errorf("Now %d, States %d, Pinned %v", s.Now(), s.States(), s.Pinned())
	}
	if _, e := s.Read(0, "a"); e != api.ErrMissing {
		t.Errorf("Read: %d", e)
	}
	if list, e := s.List(0, ""); e != api.OK || len(list) > 0 {
		t.Errorf("List: %q, %d", list, e)
	}
	if err := s.Check(put("a", "x")); err != nil {
		t.Errorf("Check: %v", err)
	}
	if version, e := s.Pin(); version != 0 || e != api.OK || !slices.Equal(s.Pinned(), []int{0}) {
		t.Errorf("Pin: %d, %d, Pinned %v", version, e, s.Pinned())
	}
}

// P11.1, P11.2: the document's example.
func TestExample(t *testing.T) {
	s := view.New()
	commit(t, s, put("a", "x"))
	pin(t, s, 1)
	commit(t, s, put("a", "y"))
	if b, e := s.Read(1, "a"); string(b) != "x" || e != api.OK {
		t.Errorf("at 1: %q, %d", b, e)
	}
	if b, e := s.Read(2, "a"); string(b) != "y" || e != api.OK {
		t.Errorf("at 2: %q, %d", b, e)
	}
	if _, e := s.Read(0, "a"); e != api.ErrGone {
		t.Errorf("at 0: %d", e)
	}
}

// P11.1: as often as versions can be looked at in all, whichever they are, and once too often.
func TestMostPins(t *testing.T) {
	for _, perVersion := range []int{1, 3, 32, 64} {
		s := view.New()
		for left := 64; left > 0; left -= perVersion {
			commit(t, s)
			pin(t, s, min(perVersion, left))
		}
		before := s.Pinned()
		for range 2 {
			if version, e := s.Pin(); version != 0 || e != api.ErrFull || !slices.Equal(s.Pinned(), before) {
				t.Errorf("%d: %d, %d", perVersion, version, e)
			}
		}
		commit(t, s)
		if _, e := s.Pin(); e != api.ErrFull {
			t.Errorf("%d: of a new version: %d", perVersion, e)
		}
		if e := s.Unpin(1); e != api.OK {
			t.Fatalf("%d: Unpin: %d", perVersion, e)
		}
		pin(t, s, 1)
		if _, e := s.Pin(); e != api.ErrFull {
			t.Errorf("%d: once more: %d", perVersion, e)
		}
	}
}

// P11.1, P2: a Pin that was refused is not to be let go.
func TestRefusedPin(t *testing.T) {
	s := view.New()
	pin(t, s, 64)
	s.Pin()
	for i := range 64 {
		if e := s.Unpin(0); e != api.OK {
			t.Fatalf("%d: %d", i, e)
		}
	}
	if e := s.Unpin(0); e != api.ErrMissing || len(s.Pinned()) > 0 {
		t.Errorf("%d, Pinned %v", e, s.Pinned())
	}
}

// P11.1: versions are looked at as often as they were pinned, and rise.
func TestPinned(t *testing.T) {
	s := view.New()
	for version := range 12 {
		if version%3 > 0 {
			pin(t, s, version%3)
		}
		commit(t, s)
	}
	steps := []struct {
		version int
		e       api.Errno
		want    []int
	}{
		{0, api.ErrMissing, []int{1, 2, 4, 5, 7, 8, 10, 11}},
		{12, api.ErrMissing, []int{1, 2, 4, 5, 7, 8, 10, 11}},
		{13, api.ErrMissing, []int{1, 2, 4, 5, 7, 8, 10, 11}},
		{-1, api.ErrMissing, []int{1, 2, 4, 5, 7, 8, 10, 11}},
		{math.MinInt, api.ErrMissing, []int{1, 2, 4, 5, 7, 8, 10, 11}},
		{math.MaxInt, api.ErrMissing, []int{1, 2, 4, 5, 7, 8, 10, 11}},
		{4, api.OK, []int{1, 2, 5, 7, 8, 10, 11}},
		{4, api.ErrMissing, []int{1, 2, 5, 7, 8, 10, 11}},
		{5, api.OK, []int{1, 2, 5, 7, 8, 10, 11}},
		{5, api.OK, []int{1, 2, 7, 8, 10, 11}},
		{5, api.ErrMissing, []int{1, 2, 7, 8, 10, 11}},
		{11, api.OK, []int{1, 2, 7, 8, 10, 11}},
		{1, api.OK, []int{2, 7, 8, 10, 11}},
		{11, api.OK, []int{2, 7, 8, 10}},
	}
	for i, c := range steps {
		if e := s.Unpin(c.version); e != c.e || !slices.Equal(s.Pinned(), c.want) {
			t.Errorf("%d: Unpin %d: %d, Pinned %v", i, c.version, e, s.Pinned())
		}
	}
	pin(t, s, 1)
	if want := []int{2, 7, 8, 10, 12}; !slices.Equal(s.Pinned(), want) {
		t.Errorf("Pinned %v", s.Pinned())
	}
}

// some: a store of whose versions 0 to 5 the second and the fourth are looked at.
func some(t *testing.T) *view.Store {
	s := view.New()
	commit(t, s, put("r/a", "one"), put("s", "1"))
	pin(t, s, 1)
	commit(t, s, gone("r/a"), put("r/b", "two"))
	commit(t, s, put("r/a/c", "three"), put("s", "3"))
	pin(t, s, 2)
	commit(t, s, gone("r/a/c"), gone("s"))
	commit(t, s, put("r/a", "five"))
	return s
}

// P11.2: files at versions that are looked at, and at others.
func TestRead(t *testing.T) {
	s := some(t)
	for _, c := range []struct {
		version int
		p, want string
		e       api.Errno
	}{
		{1, "r/a", "one", api.OK},
		{1, "s", "1", api.OK},
		{1, "r/b", "", api.ErrMissing},
		{1, "r", "", api.ErrMissing},
		{1, "", "", api.ErrMissing},
		{3, "r/a", "", api.ErrMissing},
		{3, "r/a/c", "three", api.OK},
		{3, "r/b", "two", api.OK},
		{3, "s", "3", api.OK},
		{5, "r/a", "five", api.OK},
		{5, "s", "", api.ErrMissing},
		{5, "\xff//", "", api.ErrMissing},
		{0, "r/a", "", api.ErrGone},
		{0, "none", "", api.ErrGone},
		{2, "r/b", "", api.ErrGone},
		{4, "r/b", "", api.ErrGone},
		{4, "", "", api.ErrGone},
		{6, "r/a", "", api.ErrRange},
		{-1, "none", "", api.ErrRange},
		{math.MaxInt, "s", "", api.ErrRange},
		{math.MinInt, "s", "", api.ErrRange},
	} {
		if b, e := s.Read(c.version, c.p); string(b) != c.want || e != c.e {
			t.Errorf("%d, %q: %q, %d", c.version, c.p, b, e)
		}
	}
}

// P11.2: paths at versions that are looked at, and at others.
func TestList(t *testing.T) {
	s := some(t)
	for _, c := range []struct {
		version int
		root    string
		want    []string
		e       api.Errno
	}{
		{1, "", []string{"r/a", "s"}, api.OK},
		{1, "r", []string{"r/a"}, api.OK},
		{1, "s", nil, api.OK},
		{3, "", []string{"r/a/c", "r/b", "s"}, api.OK},
		{3, "r/a", []string{"r/a/c"}, api.OK},
		{5, "", []string{"r/a", "r/b"}, api.OK},
		{5, "\xff//", nil, api.OK},
		{0, "", nil, api.ErrGone},
		{2, "", nil, api.ErrGone},
		{4, "r", nil, api.ErrGone},
		{6, "", nil, api.ErrRange},
		{-1, "", nil, api.ErrRange},
		{math.MaxInt, "r", nil, api.ErrRange},
		{math.MinInt, "r", nil, api.ErrRange},
	} {
		if list, e := s.List(c.version, c.root); !slices.Equal(list, c.want) || e != c.e {
			t.Errorf("%d, %q: %q, %d", c.version, c.root, list, e)
		}
	}
	if s.Bytes(1, "") != 4 || s.Bytes(3, "r") != 8 || s.Bytes(5, "") != 7 || s.Bytes(6, "") != 0 {
		t.Errorf("Bytes %d, %d, %d, %d", s.Bytes(1, ""), s.Bytes(3, "r"), s.Bytes(5, ""), s.Bytes(6, ""))
	}
}

// P11.2: the last version is told, looked at or not; one that nobody looks at any more isn't, and can't be looked at again.
func TestGone(t *testing.T) {
	s := view.New()
	commit(t, s, put("a", "x"))
	pin(t, s, 2)
	told := func(want string, e api.Errno) {
		t.Helper()
		if b, got := s.Read(1, "a"); string(b) != want || got != e {
			t.Errorf("Read: %q, %d", b, got)
		}
		if _, got := s.List(1, ""); got != e {
			t.Errorf("List: %d", got)
		}
	}
	commit(t, s, put("a", "y"))
	s.Unpin(1)
	told("x", api.OK)
	s.Unpin(1)
	told("", api.ErrGone)
	pin(t, s, 1)
	told("", api.ErrGone)
	s.Unpin(2)
	if b, e := s.Read(2, "a"); string(b) != "y" || e != api.OK {
		t.Errorf("the last one: %q, %d", b, e)
	}
}

// P11.2: a state is kept as long as a version that is looked at needs it, no longer.
func TestStates(t *testing.T) {
	s := view.New()
	left := func(want int) {
		t.Helper()
		if s.States() != want {
			t.Errorf("States %d, not %d", s.States(), want)
		}
	}
	commit(t, s, put("a", "1"), put("b", "1"))
	commit(t, s, put("a", "2"))
	left(2) // a's first state is forgotten by the Commit
	pin(t, s, 2)
	commit(t, s, put("a", "3"))
	left(3)
	pin(t, s, 1)
	commit(t, s, put("a", "4"), gone("b"))
	left(5)
	commit(t, s, put("a", "5"))
	left(5)
	if _, err := s.Commit(gone("b")); err == nil {
		t.Error("b is taken out twice")
	}
	left(5)
	s.Unpin(2)
	left(5) // it is still looked at once
	s.Unpin(4)
	left(5) // it wasn't looked at
	s.Unpin(2)
	left(4)
	s.Unpin(3)
	left(1) // b is gone, and nobody looks at a version that has it
	pin(t, s, 1)
	s.Unpin(5)
	left(1) // the last one stays
	commit(t, s, gone("a"))
	left(0)
}

// P11.2, P2: a Commit that is refused, with layer 10's error, has changed nothing.
func TestRefusedCommit(t *testing.T) {
	s := some(t)
	for _, c := range []struct {
		list []tree.Change
		want api.Fault
	}{
		{[]tree.Change{put("x", ""), put("x//y", "")}, api.Fault{At: 1, Err: api.ErrPath}},
		{[]tree.Change{put("x", ""), put("x", "")}, api.Fault{At: 1, Err: api.ErrTwice}},
		{[]tree.Change{{Path: "r/a", Data: []byte("x"), Gone: true}}, api.Fault{At: 0, Err: api.ErrForm}},
		{[]tree.Change{put("x", ""), gone("s")}, api.Fault{At: 1, Err: api.ErrMissing}},
		{[]tree.Change{put("r/a/c", "")}, api.Fault{At: 1, Err: api.ErrPath}},
		{[]tree.Change{put("x", string(make([]byte, 1<<18)))}, api.Fault{At: 1, Err: api.ErrFull}},
	} {
		states := s.States()
		if fault := probe.Fault(s.Check(c.list...)); fault != c.want {
			t.Errorf("Check: %v, not %v", fault.Error(), c.want.Error())
		}
		if version, err := s.Commit(c.list...); version != 0 || probe.Fault(err) != c.want {
			t.Errorf("Commit: %d, %v, not %v", version, err, c.want.Error())
		}
		if !probe.NewFaults(func() error { _, err := s.Commit(c.list...); return err }) {
			t.Errorf("%v: a Fault is kept", c.want.Error())
		}
		if s.Now() != 5 || s.States() != states || !slices.Equal(s.Pinned(), []int{1, 3}) {
			t.Errorf("%v: Now %d, States %d, Pinned %v", c.want.Error(), s.Now(), s.States(), s.Pinned())
		}
	}
}

// P11.2: many versions that nobody looks at leave nothing behind.
func TestManyVersions(t *testing.T) {
	s := view.New()
	commit(t, s, put("a", "first"), put("b", ""))
	pin(t, s, 1)
	for i := range 20000 {
		commit(t, s, put("a", fmt.Sprint(i)))
		if s.States() != 3 {
			t.Fatalf("%d states behind %d", s.States(), i)
		}
	}
	if b, e := s.Read(1, "a"); string(b) != "first" || e != api.OK {
		t.Errorf("%q, %d", b, e)
	}
	if b, e := s.Read(20001, "a"); string(b) != "19999" || e != api.OK {
		t.Errorf("%q, %d", b, e)
	}
}

// P11.2: as many versions as can be, and one too many, with one that is looked at.
func TestMostVersions(t *testing.T) {
	s := view.New()
	commit(t, s, put("a", "x"))
	pin(t, s, 1)
	for s.Now() < 1<<20 {
		commit(t, s)
	}
	pin(t, s, 1)
	if version, err := s.Commit(); version != 0 || probe.Fault(err) != (api.Fault{At: 0, Err: api.ErrFull}) {
		t.Errorf("%d, %v", version, err)
	}
	if _, e := s.Read(1<<20-1, "a"); e != api.ErrGone || !slices.Equal(s.Pinned(), []int{1, 1 << 20}) {
		t.Errorf("%d, Pinned %v", e, s.Pinned())
	}
}

// P2, rule 4: what is handed in is as it was, its spare room too, and isn't kept; what is answered is new memory.
func TestNothingIsShared(t *testing.T) {
	room := []byte("dataspare room")
	list := []tree.Change{put("b", "y"), {Path: "a", Data: room[:4]}, put("spare", "room")}
	s := view.New()
	commit(t, s, list[:2]...)
	if string(room) != "dataspare room" || list[0].Path != "b" || list[1].Path != "a" || list[2].Path != "spare" {
		t.Errorf("what was handed in became %q, %v", room, list)
	}
	probe.Spoil(room)
	list[0], list[1] = gone("x"), gone("y")
	pin(t, s, 1)
	commit(t, s, put("a", "new"))
	pin(t, s, 1)
	first, _ := s.Read(1, "a")
	second, _ := s.Read(1, "a")
	probe.Spoil(first)
	third, _ := s.Read(1, "a")
	if string(second) != "data" || string(third) != "data" {
		t.Errorf("%q, %q", second, third)
	}
	names, _ := s.List(1, "")
	for i := range names[:cap(names)] {
		names[:cap(names)][i] = "spoilt"
	}
	if again, _ := s.List(1, ""); !slices.Equal(again, []string{"a", "b"}) {
		t.Errorf("%q", again)
	}
	pinned := s.Pinned()
	for i := range pinned[:cap(pinned)] {
		pinned[:cap(pinned)][i] = 77
	}
	if again := s.Pinned(); !slices.Equal(again, []int{1, 2}) {
		t.Errorf("%v", again)
	}
}

// P2, rule 4: stores have nothing to do with each other.
func TestStoresAreApart(t *testing.T) {
	x, y := view.New(), view.New()
	commit(t, x, put("a", "x"))
	pin(t, x, 1)
	commit(t, x, put("a", "y"))
	commit(t, y, put("a", "other"))
	commit(t, y, gone("a"))
	if e := y.Unpin(1); e != api.ErrMissing || len(y.Pinned()) > 0 {
		t.Errorf("%d, Pinned %v", e, y.Pinned())
	}
	if b, e := x.Read(1, "a"); string(b) != "x" || e != api.OK || x.Now() != 2 || !slices.Equal(x.Pinned(), []int{1}) {
		t.Errorf("%q, %d, Now %d, Pinned %v", b, e, x.Now(), x.Pinned())
	}
}
