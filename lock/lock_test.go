package lock_test

import (
	"errors"
	"fmt"
	"math"
	"slices"
	"strings"
	"testing"

	"wharfinger/api"
	"wharfinger/code"
	"wharfinger/lock"
)

// The calls keep the document's signatures, the limits their values.
var (
	_ func() *lock.Locks                                = lock.New
	_ func(*lock.Locks, int, ...string) (bool, error)   = (*lock.Locks).Ask
	_ func(*lock.Locks, int) ([]int, api.Errno)         = (*lock.Locks).Release
	_ func(*lock.Locks, int) bool                       = (*lock.Locks).Has
	_ func(*lock.Locks, int) bool                       = (*lock.Locks).Waits
	_ func(l *lock.Locks, p string) (who int, has bool) = (*lock.Locks).Holder
	_ func(*lock.Locks) int                             = (*lock.Locks).Len
	_ [64]struct{}                                      = [lock.MaxAsks]struct{}{}
	_ [16]struct{}                                      = [lock.MaxPaths]struct{}{}
)

// ask: somebody asks for what can be asked for; have they it at once?
func ask(t *testing.T, l *lock.Locks, who int, want bool, paths ...string) {
	t.Helper()
	if has, err := l.Ask(who, paths...); has != want || err != nil {
		t.Errorf("%d asks for %q: %v, %v", who, paths, has, err)
	}
	if l.Has(who) != want || l.Waits(who) == want {
		t.Errorf("%d: Has %v, Waits %v", who, l.Has(who), l.Waits(who))
	}
}

// release: somebody releases, by which these have theirs.
func release(t *testing.T, l *lock.Locks, who int, want ...int) {
	t.Helper()
	list, e := l.Release(who)
	if e != api.OK || !slices.Equal(list, want) || l.Has(who) || l.Waits(who) {
		t.Errorf("%d releases: %v, %d, not %v", who, list, e, want)
	}
	for _, next := range want {
		if !l.Has(next) || l.Waits(next) {
			t.Errorf("%d releases: %d: Has %v, Waits %v", who, next, l.Has(next), l.Waits(next))
		}
	}
}

// holds: who has a path; 0: nobody.
func holds(t *testing.T, l *lock.Locks, p string, want int) {
	t.Helper()
	if who, has := l.Holder(p); who != want || has != (want != 0) {
		t.Errorf("%q: %d, %v, not %d", p, who, has, want)
	}
}

// P12.1: nobody asked.
func TestNew(t *testing.T) {
	l := lock.New()
	if l.Len() != 0 {
		t.Errorf("Len %d", l.Len())
	}
	for _, who := range []int{0, 1, -1, math.MaxInt, math.MinInt} {
		if list, e := l.Release(who); len(list) > 0 || e != api.ErrMissing || l.Has(who) || l.Waits(who) {
			t.Errorf("%d: %v, %d", who, list, e)
		}
	}
	for _, p := range []string{"", "a", "/", "\xff"} {
		holds(t, l, p, 0)
	}
}

// P12.1, P12.2: the document's examples.
func TestExample(t *testing.T) {
	l := lock.New()
	ask(t, l, 1, true, "a", "b")
	ask(t, l, 2, false, "b")
	holds(t, l, "b", 1)
	release(t, l, 1, 2)
	holds(t, l, "a", 0)
	holds(t, l, "b", 2)
}

// P12.2: what stands in the way of what, whoever asked first.
func TestInTheWay(t *testing.T) {
	for _, c := range []struct {
		a, b []string
		want bool
	}{
		{[]string{"a"}, []string{"a"}, true},
		{[]string{"a"}, []string{"b"}, false},
		{[]string{"a"}, []string{"a/b"}, true},
		{[]string{"a"}, []string{"a/b/c"}, true},
		{[]string{"a/b"}, []string{"a/b/c"}, true},
		{[]string{"a/b"}, []string{"a/c"}, false},
		{[]string{"a/b"}, []string{"a/bc"}, false},
		{[]string{"a"}, []string{"ab"}, false},
		{[]string{"a"}, []string{"a.b"}, false},
		{[]string{"a"}, []string{"b/a"}, false},
		{[]string{"a/b"}, []string{"b"}, false},
		{[]string{"a", "b", "c"}, []string{"d", "e", "c"}, true},
		{[]string{"c", "b", "a"}, []string{"d", "e", "a"}, true},
		{[]string{"a", "b", "c"}, []string{"d", "b/x", "e"}, true},
		{[]string{"a", "b", "c"}, []string{"d", "e", "f"}, false},
		{[]string{"a", "b"}, nil, false},
		{nil, nil, false},
	} {
		for range 2 {
			l := lock.New()
			ask(t, l, 1, true, c.a...)
			ask(t, l, 2, !c.want, c.b...)
			c.a, c.b = c.b, c.a
		}
	}
}

// P12.2: who waits stands in the way too, of all that they asked for.
func TestWhoWaitsStandsInTheWay(t *testing.T) {
	l := lock.New()
	ask(t, l, 1, true, "a")
	ask(t, l, 2, false, "a", "b")
	ask(t, l, 3, false, "b", "c")
	ask(t, l, 4, false, "c/d")
	ask(t, l, 5, true, "d")
	holds(t, l, "a", 1)
	holds(t, l, "b", 0)
	holds(t, l, "c", 0)
	holds(t, l, "c/d", 0)
	holds(t, l, "d", 5)
	release(t, l, 1, 2)
	release(t, l, 2, 3)
	holds(t, l, "b", 3)
	holds(t, l, "c", 3)
	release(t, l, 3, 4)
	holds(t, l, "c", 0)
	holds(t, l, "c/d", 4)
	if l.Len() != 2 {
		t.Errorf("Len %d", l.Len())
	}
}

// P12.1: who waits can release too, and no longer stands in the way.
func TestWhoWaitsReleases(t *testing.T) {
	l := lock.New()
	ask(t, l, 1, true, "a")
	ask(t, l, 2, false, "a", "b")
	ask(t, l, 3, false, "b")
	ask(t, l, 4, false, "a")
	release(t, l, 2, 3)
	if !l.Has(1) || !l.Waits(4) {
		t.Error("1, or 4")
	}
	release(t, l, 4)
	release(t, l, 1)
	release(t, l, 3)
	if l.Len() != 0 {
		t.Errorf("Len %d", l.Len())
	}
}

// P12.1: several have theirs by one who releases, in the order in which they asked, not in that of their numbers; nobody who had theirs before is among them.
func TestReleaseInOrder(t *testing.T) {
	l := lock.New()
	ask(t, l, 5, true, "a", "b", "c/d", "e")
	ask(t, l, 9, false, "b")
	ask(t, l, 20, true, "x")
	ask(t, l, 2, false, "c")
	ask(t, l, 8, false, "c", "e")
	ask(t, l, -4, false, "a/x", "y")
	ask(t, l, 7, false, "x", "e/f")
	ask(t, l, 1, false, "a/z")
	release(t, l, 5, 9, 2, -4, 1)
	if !l.Waits(8) || !l.Waits(7) {
		t.Error("8 waits for 2, and 7 for 20 and 8")
	}
	release(t, l, 20)
	release(t, l, 2, 8)
	release(t, l, 8, 7)
}

// P12.1: who asks again stands behind all others.
func TestAskAgain(t *testing.T) {
	l := lock.New()
	ask(t, l, 1, true, "a")
	ask(t, l, 2, false, "a")
	release(t, l, 1, 2)
	ask(t, l, 1, false, "a")
	ask(t, l, 3, false, "a")
	release(t, l, 2, 1)
	release(t, l, 1, 3)
}

// P12.1, P12.2: who asks for none has them, stands in nobody's way, and has asked.
func TestAskForNone(t *testing.T) {
	l := lock.New()
	ask(t, l, 1, true)
	ask(t, l, 2, true, "a")
	ask(t, l, 3, false, "a")
	ask(t, l, 4, true)
	if _, err := l.Ask(1); !errors.Is(err, api.ErrTwice) || l.Len() != 4 {
		t.Errorf("%v, Len %d", err, l.Len())
	}
	holds(t, l, "", 0)
	release(t, l, 1)
	release(t, l, 4)
	release(t, l, 2, 3)
}

// P12.2: who has a path among theirs, and just that; of any text.
func TestHolder(t *testing.T) {
	l := lock.New()
	ask(t, l, 0, true, "z")
	ask(t, l, 3, true, "b", "a/b")
	ask(t, l, -1, true, "c")
	ask(t, l, 4, false, "b/x", "d")
	if who, has := l.Holder("z"); who != 0 || !has {
		t.Errorf("z: %d, %v", who, has)
	}
	for p, want := range map[string]int{
		"b": 3, "a/b": 3, "c": -1, "a": 0, "a/b/c": 0, "b/x": 0, "d": 0, "ab": 0,
		"": 0, "/": 0, "a/": 0, "a/b/": 0, "B": 0, "\xff": 0, strings.Repeat("a", 1000): 0,
	} {
		holds(t, l, p, want)
	}
}

// P12.1: any number is somebody's.
func TestAnyNumber(t *testing.T) {
	l := lock.New()
	all := []int{0, -1, math.MinInt, math.MaxInt, 7}
	for i, who := range all {
		ask(t, l, who, i == 0, "a")
	}
	for i, who := range all[:len(all)-1] {
		release(t, l, who, all[i+1])
		if list, e := l.Release(who); e != api.ErrMissing || len(list) > 0 {
			t.Errorf("%d releases twice: %v, %d", who, list, e)
		}
	}
}

// many: so many paths, none of which stands in another's way.
func many(n int, front string) []string {
	var list []string
	for i := range n {
		list = append(list, fmt.Sprint(front, i))
	}
	return list
}

// P12.1: as many as can ask, and one too many.
func TestMostAsks(t *testing.T) {
	l := lock.New()
	for who := range 64 {
		ask(t, l, who, who == 0, "a")
	}
	for range 2 {
		if has, err := l.Ask(64, "b"); has || !errors.Is(err, api.ErrFull) || l.Len() != 64 || l.Has(64) || l.Waits(64) {
			t.Errorf("%v, %v, Len %d", has, err, l.Len())
		}
	}
	release(t, l, 30)
	ask(t, l, 64, true, "b")
	if _, err := l.Ask(65); !errors.Is(err, api.ErrFull) {
		t.Error(err)
	}
	release(t, l, 0, 1)
}

// P12.1: as many paths as can be, and one too many.
func TestMostPaths(t *testing.T) {
	l := lock.New()
	ask(t, l, 1, true, many(16, "f")...)
	if has, err := l.Ask(2, many(17, "g")...); has || !errors.Is(err, api.ErrLong) || l.Len() != 1 {
		t.Errorf("%v, %v", has, err)
	}
	ask(t, l, 2, false, append(many(15, "g"), "f15")...)
	holds(t, l, "f15", 1)
	release(t, l, 1, 2)
	holds(t, l, "f15", 2)
}

// P12.1, rule 1: which error is told where several apply.
func TestOrderOfErrors(t *testing.T) {
	few := lock.New()
	ask(t, few, 1, true, "a")
	full := lock.New()
	for who := range 64 {
		ask(t, full, who, true)
	}
	long := append(many(16, "f"), "/")
	for _, c := range []struct {
		name  string
		l     *lock.Locks
		who   int
		paths []string
		want  api.Errno
	}{
		{"twice", few, 1, []string{"b"}, api.ErrTwice},
		{"twice, for none", few, 1, nil, api.ErrTwice},
		{"twice, too long, no path", few, 1, long, api.ErrTwice},
		{"twice, no path", few, 1, []string{"/"}, api.ErrTwice},
		{"twice, full", full, 1, []string{"b"}, api.ErrTwice},
		{"twice, full, too long", full, 1, long, api.ErrTwice},
		{"full", full, 64, []string{"b"}, api.ErrFull},
		{"full, too long", full, 64, long, api.ErrFull},
		{"full, no path", full, 64, []string{"/"}, api.ErrFull},
		{"too long, no path", few, 2, long, api.ErrLong},
		{"too long, two that clash", few, 2, append(many(16, "f"), "f0/x"), api.ErrLong},
		{"too long, one of them twice", few, 2, append(many(16, "f"), "f0"), api.ErrLong},
	} {
		size := c.l.Len()
		if has, err := c.l.Ask(c.who, c.paths...); has || code.Number(err) != c.want || c.l.Len() != size {
			t.Errorf("%s: %v, %v", c.name, has, err)
		}
	}
}

// P12.1, P2: paths that can't be asked for: layer 9's error, and nobody has asked.
func TestWrongPaths(t *testing.T) {
	l := lock.New()
	ask(t, l, 1, true, "a")
	for _, c := range []struct {
		paths []string
		want  api.Fault
	}{
		{[]string{""}, api.Fault{At: 0, Err: api.ErrPath}},
		{[]string{"b", "x//y"}, api.Fault{At: 1, Err: api.ErrPath}},
		{[]string{"b", "c", "\xff"}, api.Fault{At: 2, Err: api.ErrPath}},
		{[]string{"b", "c", "b"}, api.Fault{At: 2, Err: api.ErrTwice}},
		{[]string{"b", "b/c"}, api.Fault{At: 1, Err: api.ErrPath}},
		{[]string{"b/c", "x", "b"}, api.Fault{At: 2, Err: api.ErrPath}},
		{append(many(15, "f"), "F"), api.Fault{At: 15, Err: api.ErrPath}},
	} {
		has, err := l.Ask(2, c.paths...)
		if has || code.Number(err) != c.want.Err || code.Place(err) != c.want.At {
			t.Errorf("%q: %v, %v, not %v", c.paths, has, err, c.want.Error())
		}
		if l.Len() != 1 || l.Has(2) || l.Waits(2) {
			t.Errorf("%q: Len %d", c.paths, l.Len())
		}
		holds(t, l, c.paths[0], 0)
		var fault *api.Fault
		if errors.As(err, &fault) {
			fault.At, fault.Err = 77, api.ErrGone
		}
		if _, again := l.Ask(2, c.paths...); code.Place(again) != c.want.At || code.Number(again) != c.want.Err {
			t.Errorf("%q: a Fault is kept: %v", c.paths, again)
		}
	}
	ask(t, l, 2, true, "b")
}

// P2, rule 4: the paths are as they were, their spare room too, and aren't kept; what is answered is new memory.
func TestNothingIsShared(t *testing.T) {
	l := lock.New()
	list := []string{"c", "a", "b", "spare", "room"}
	ask(t, l, 1, true, list[:3]...)
	if want := []string{"c", "a", "b", "spare", "room"}; !slices.Equal(list, want) {
		t.Errorf("the paths became %q", list)
	}
	for i := range list {
		list[i] = "x"
	}
	holds(t, l, "a", 1)
	holds(t, l, "x", 0)
	ask(t, l, 2, false, "a", "b")
	ask(t, l, 3, false, "c")
	ask(t, l, 4, false, "a")
	next, _ := l.Release(1)
	if !slices.Equal(next, []int{2, 3}) {
		t.Errorf("%v", next)
	}
	for i := range next[:cap(next)] {
		next[:cap(next)][i] = 77
	}
	if !l.Has(2) || !l.Has(3) || l.Len() != 3 {
		t.Errorf("Len %d", l.Len())
	}
	release(t, l, 2, 4)
}

// P2, rule 4: locks have nothing to do with each other.
func TestLocksAreApart(t *testing.T) {
	x, y := lock.New(), lock.New()
	ask(t, x, 1, true, "a")
	ask(t, y, 1, true, "b")
	ask(t, y, 2, true, "a")
	release(t, x, 1)
	holds(t, y, "b", 1)
	holds(t, y, "a", 2)
}

// P1, P12.1: all who can ask for as many paths as can be, and release.
func TestMostOfAll(t *testing.T) {
	l := lock.New()
	for who := range 64 {
		paths := append(many(15, fmt.Sprint("d/e/f/g/", who, "x")), fmt.Sprint("h", who/2))
		ask(t, l, who, who%2 == 0, paths...)
	}
	for who := 63; who > 0; who -= 4 {
		release(t, l, who)
	}
	for who := 0; who < 64; who += 2 {
		if who%4 == 2 {
			release(t, l, who)
		} else {
			release(t, l, who, who+1)
		}
	}
	if l.Len() != 16 {
		t.Errorf("Len %d", l.Len())
	}
}
