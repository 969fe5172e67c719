package view_test

import (
	"fmt"
	"slices"
	"strings"
	"testing"

	"wharfinger/api"
	"wharfinger/probe"
	"wharfinger/tree"
	"wharfinger/view"
)

// model is a store as the document words it: all versions whole, and a number for each look at one.
type model struct {
	versions []map[string]string // the files at each, by their paths
	states   []state             // all changes, the elder ahead
	looks    []int
}

// state is a change of a path at a version.
type state struct {
	path string
	from int
	gone bool
}

func newModel() *model { return &model{versions: []map[string]string{{}}} }

func (m *model) now() int { return len(m.versions) - 1 }

// commit: changes are made, which can be.
func (m *model) commit(list []tree.Change) {
	files := map[string]string{}
	for p, data := range m.versions[m.now()] {
		files[p] = data
	}
	for _, c := range list {
		m.states = append(m.states, state{c.Path, m.now() + 1, c.Gone})
		files[c.Path] = string(c.Data)
		if c.Gone {
			delete(files, c.Path)
		}
	}
	m.versions = append(m.versions, files)
	m.forget()
}

// isAt: is the i-th state at a version?
func (m *model) isAt(i, version int) bool {
	s := m.states[i]
	for _, next := range m.states[i+1:] {
		if next.path == s.path {
			return s.from <= version && version < next.from
		}
	}
	return s.from <= version
}

// forget: states that no version needs that is looked at, nor the last one, aren't kept; nor that a path is gone, which has no state ahead.
func (m *model) forget() {
	var left []state
	for i, s := range m.states {
		needed := m.isAt(i, m.now())
		for _, version := range m.looks {
			needed = needed || m.isAt(i, version)
		}
		ahead := slices.ContainsFunc(left, func(other state) bool { return other.path == s.path })
		if needed && (ahead || !s.gone) {
			left = append(left, s)
		}
	}
	m.states = left
}

// lookedAt: how often a version is.
func (m *model) lookedAt(version int) int {
	count := 0
	for _, look := range m.looks {
		if look == version {
			count++
		}
	}
	return count
}

// why: the error with which a version isn't told; OK: it is.
func (m *model) why(version int) api.Errno {
	if version < 0 || version > m.now() {
		return api.ErrRange
	}
	if version < m.now() && m.lookedAt(version) == 0 {
		return api.ErrGone
	}
	return api.OK
}

// same: does the store tell of itself what the model does?
func (m *model) same(s *view.Store) error {
	var pinned []int
	for version := range m.versions {
		if m.lookedAt(version) > 0 {
			pinned = append(pinned, version)
		}
	}
	if s.Now() != m.now() || s.States() != len(m.states) || !slices.Equal(s.Pinned(), pinned) {
		return fmt.Errorf("Now %d, States %d, Pinned %v, not %d, %d, %v", s.Now(), s.States(), s.Pinned(), m.now(), len(m.states), pinned)
	}
	for version := -1; version <= m.now()+1; version++ {
		if err := m.sameVersion(s, version); err != nil {
			return err
		}
	}
	return nil
}

// pool: texts that tell something: the first four are paths that don't clash.
func pool() []string { return []string{"a", "b/c", "b/d", "a.b", "b", ""} }

func (m *model) sameVersion(s *view.Store, version int) error {
	why := m.why(version)
	var files map[string]string
	if why == api.OK {
		files = m.versions[version]
	}
	for _, p := range pool() {
		data, found := files[p]
		want := why
		if want == api.OK && !found {
			want = api.ErrMissing
		}
		if b, e := s.Read(version, p); e != want || string(b) != data {
			return fmt.Errorf("Read %d %q: %q, %d, not %q, %d", version, p, b, e, data, want)
		}
	}
	for _, root := range pool() {
		var list []string
		size := 0
		for p, data := range files {
			if root == "" || strings.HasPrefix(p, root+"/") {
				list = append(list, p)
				size += len(data)
			}
		}
		slices.Sort(list)
		if l, e := s.List(version, root); e != why || !slices.Equal(l, list) {
			return fmt.Errorf("List %d %q: %q, %d, not %q, %d", version, root, l, e, list, why)
		}
		if n := s.Bytes(version, root); why != api.ErrGone && n != size {
			return fmt.Errorf("Bytes %d %q: %d, not %d", version, root, n, size)
		}
	}
	return nil
}

// commitBoth: changes of which only one can be wrong, that a file is taken out that isn't there.
func (m *model) commitBoth(s *view.Store, list []tree.Change) error {
	for _, c := range list {
		if _, found := m.versions[m.now()][c.Path]; c.Gone && !found {
			now := m.now()
			if version, err := s.Commit(list...); version != 0 || probe.Fault(err).Err != api.ErrMissing || s.Now() != now {
				return fmt.Errorf("Commit %v: %d, %v", list, version, err)
			}
			return nil
		}
	}
	m.commit(list)
	if version, err := s.Commit(list...); version != m.now() || err != nil {
		return fmt.Errorf("Commit %v: %d, %v, not %d", list, version, err, m.now())
	}
	return nil
}

func (m *model) pinBoth(s *view.Store) error {
	want, why := m.now(), api.OK
	if len(m.looks) == 64 {
		want, why = 0, api.ErrFull
	} else {
		m.looks = append(m.looks, want)
	}
	if version, e := s.Pin(); version != want || e != why {
		return fmt.Errorf("Pin: %d, %d, not %d, %d", version, e, want, why)
	}
	return nil
}

func (m *model) unpinBoth(s *view.Store, version int) error {
	want := api.ErrMissing
	if i := slices.Index(m.looks, version); i >= 0 {
		m.looks = slices.Delete(m.looks, i, i+1)
		want = api.OK
		m.forget()
	}
	if e := s.Unpin(version); e != want {
		return fmt.Errorf("Unpin %d: %d, not %d", version, e, want)
	}
	return nil
}

// P11.1, P11.2: every short row of steps.
func TestEveryShortRow(t *testing.T) {
	changes := [][]tree.Change{nil, {put("a", "x")}, {put("a", "longer"), put("b/c", "y")}, {gone("a")}}
	for row := range probe.Rows([]byte{0, 1, 2, 3, 4, 5, 6, 7}, 6) {
		s, m := view.New(), newModel()
		for _, step := range row {
			var err error
			switch {
			case int(step) < len(changes):
				err = m.commitBoth(s, changes[step])
			case step == 4:
				err = m.pinBoth(s)
			default:
				err = m.unpinBoth(s, int(step)-4)
			}
			if err != nil {
				t.Fatalf("%v: %v", row, err)
			}
		}
		if err := m.same(s); err != nil { // behind fewer steps a shorter row tells
			t.Fatalf("%v: %v", row, err)
		}
	}
}

// play does what bytes tell to a store and to the model.
func play(script []byte) error {
	s, m := view.New(), newModel()
	for i, step := range script {
		var err error
		switch arg := int(step >> 2); step & 3 {
		case 0:
			list := []tree.Change{{Path: pool()[arg%4], Data: probe.Bytes(arg / 4)}}
			err = m.commitBoth(s, append(list, tree.Change{Path: "z"})[:1+arg%2])
		case 1:
			err = m.commitBoth(s, []tree.Change{gone(pool()[arg%4])})
		case 2:
			for range 1 + arg/16 {
				if err == nil {
					err = m.pinBoth(s)
				}
			}
		case 3:
			err = m.unpinBoth(s, arg%(m.now()+3)-1)
			if arg > 60 && err == nil && len(m.looks) > 0 {
				err = m.unpinBoth(s, m.looks[0])
			}
		}
		if err == nil {
			err = m.same(s)
		}
		if err != nil {
			return fmt.Errorf("step %d: %w", i, err)
		}
	}
	return nil
}

// P1, P11.1, P11.2: whatever is done to a store.
func FuzzPlay(f *testing.F) {
	f.Add([]byte{0x10, 2, 0x20, 3, 7, 0x11, 1})
	f.Add(probe.Bytes(120))
	f.Fuzz(func(t *testing.T, script []byte) {
		if err := play(script[:min(len(script), 200)]); err != nil {
			t.Error(err)
		}
	})
}

// P11.1, P11.2: many scripts of no simple order.
func TestPlay(t *testing.T) {
	for n := range 200 {
		if err := play(probe.Bytes(n)); err != nil {
			t.Fatalf("script %d: %v", n, err)
		}
	}
}
