package lock_test

import (
	"fmt"
	"slices"
	"strings"
	"testing"

	"wharfinger/api"
	"wharfinger/code"
	"wharfinger/lock"
	"wharfinger/path"
	"wharfinger/probe"
)

// model is who asked for which paths, as the document words it.
type model []asked

type asked struct {
	who   int
	paths []string
}

// has: does the i-th who asked have theirs?
func (m model) has(i int) bool {
	for _, ahead := range m[:i] {
		for _, p := range ahead.paths {
			for _, q := range m[i].paths {
				if strings.HasPrefix(p+"/", q+"/") || strings.HasPrefix(q+"/", p+"/") {
					return false
				}
			}
		}
	}
	return true
}

// having: all who have theirs, in the order in which they asked.
func (m model) having() []int {
	var list []int
	for i, a := range m {
		if m.has(i) {
			list = append(list, a.who)
		}
	}
	return list
}

func (m model) find(who int) int {
	return slices.IndexFunc(m, func(a asked) bool { return a.who == who })
}

// why: the error with which somebody can't ask for paths, and its place, if it has one.
func (m model) why(who int, paths []string) (api.Errno, int) {
	_, err := path.Set(paths...)
	switch {
	case m.find(who) >= 0:
		return api.ErrTwice, -1
	case len(m) >= 64:
		return api.ErrFull, -1
	case len(paths) > 16:
		return api.ErrLong, -1
	case err != nil:
		return code.Number(err), code.Place(err)
	}
	return api.OK, -1
}

// askBoth: somebody asks both; do they answer the same?
func (m *model) askBoth(l *lock.Locks, who int, paths []string) error {
	why, at := m.why(who, paths)
	want := false
	if why == api.OK {
		*m = append(*m, asked{who, slices.Clone(paths)})
		want = m.has(len(*m) - 1)
	}
	has, err := l.Ask(who, paths...)
	if has != want || code.Number(err) != why || (err == nil) != (why == api.OK) || at >= 0 && code.Place(err) != at {
		return fmt.Errorf("%d asks for %q: %v, %v, not %v, %d", who, paths, has, err, want, why)
	}
	return nil
}

// releaseBoth: somebody releases both; do they answer the same?
func (m *model) releaseBoth(l *lock.Locks, who int) error {
	why := api.ErrMissing
	var want []int
	if i := m.find(who); i >= 0 {
		why = api.OK
		before := m.having()
		*m = slices.Delete(*m, i, i+1)
		want = slices.DeleteFunc(m.having(), func(other int) bool { return slices.Contains(before, other) })
	}
	if list, e := l.Release(who); e != why || !slices.Equal(list, want) {
		return fmt.Errorf("%d releases: %v, %d, not %v, %d", who, list, e, want, why)
	}
	return nil
}

// same: do the locks tell of themselves what the model does?
func (m model) same(l *lock.Locks, most int, pool []string) error {
	if l.Len() != len(m) {
		return fmt.Errorf("Len %d, not %d", l.Len(), len(m))
	}
	for who := -1; who <= most; who++ {
		i := m.find(who)
		has := i >= 0 && m.has(i)
		waits := i >= 0 && !has
		if l.Has(who) != has || l.Waits(who) != waits {
			return fmt.Errorf("%d: Has %v, Waits %v, not %v, %v", who, l.Has(who), l.Waits(who), has, waits)
		}
	}
	for _, p := range pool {
		want, found := 0, false
		for i, a := range m {
			if m.has(i) && slices.Contains(a.paths, p) {
				want, found = a.who, true
			}
		}
		if who, has := l.Holder(p); who != want || has != found {
			return fmt.Errorf("%q: %d, %v, not %d, %v", p, who, has, want, found)
		}
	}
	return nil
}

// P12.1, P12.2: every short row of asks and releases of three.
func TestEveryShortRow(t *testing.T) {
	pool := []string{"a", "a/b", "b", "a.b", ""}
	sets := [][]string{{"a"}, {"a/b"}, {"b", "a/c"}}
	steps := []byte{0, 1, 2, 3, 4, 5, 6, 7, 8, 9, 10, 11}
	for row := range probe.Rows(steps, 5) {
		l, m := lock.New(), model{}
		for _, step := range row {
			var err error
			who := int(step) % 3
			if set := int(step) / 3; set < len(sets) {
				err = m.askBoth(l, who, sets[set])
			} else {
				err = m.releaseBoth(l, who)
			}
			if err != nil {
				t.Fatalf("%v: %v", row, err)
			}
		}
		if err := m.same(l, 3, pool); err != nil { // behind fewer steps a shorter row tells
			t.Fatalf("%v: %v", row, err)
		}
	}
}

// wide: paths of which some stand in another's way, and texts that are none.
func wide() []string {
	pool := []string{"a", "a/b", "a/b/c", "a/d", "a.b", "b", "b/c", "b/c/d", "a/", ""}
	for i := range 30 {
		pool = append(pool, fmt.Sprint("f", i))
	}
	return pool
}

// play does what bytes tell to locks and to the model.
func play(script []byte, most int) error {
	l, m := lock.New(), model{}
	pool := wide()
	for done := 0; len(script) > 1 && done < 200; done++ {
		who, kind := int(script[0])%most, script[1]
		script = script[2:]
		var err error
		if kind%4 == 0 {
			err = m.releaseBoth(l, who)
		} else {
			n := min(int(kind/4)%20, len(script))
			if kind%4 > 1 {
				n = min(n, 3)
			}
			var paths []string
			for _, x := range script[:n] {
				paths = append(paths, pool[int(x)%len(pool)])
			}
			script = script[n:]
			err = m.askBoth(l, who, paths)
		}
		if err == nil {
			err = m.same(l, most, pool)
		}
		if err != nil {
			return fmt.Errorf("step %d: %w", done, err)
		}
	}
	return nil
}

// P1, P12.1, P12.2: whatever is done to locks.
func FuzzPlay(f *testing.F) {
	f.Add([]byte{1, 6, 0, 2, 6, 1, 3, 10, 0, 5, 1, 0, 2, 0}, uint8(4))
	f.Add(probe.Bytes(200), uint8(8))
	f.Add(probe.Bytes(700), uint8(99))
	f.Fuzz(func(t *testing.T, script []byte, most uint8) {
		if err := play(script, 1+int(most)); err != nil {
			t.Error(err)
		}
	})
}

// P12.1, P12.2: many scripts of no simple order, by few and by many.
func TestPlay(t *testing.T) {
	for n := range 150 {
		for _, most := range []int{3, 9, 40} {
			if err := play(probe.Bytes(n), most); err != nil {
				t.Fatalf("script %d, %d: %v", n, most, err)
			}
		}
	}
	if err := play(probe.Bytes(1500), 200); err != nil {
		t.Fatal(err)
	}
}
