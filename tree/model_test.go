package tree_test

import (
	"fmt"
	"math"
	"slices"
	"strings"
	"testing"

	"wharfinger/api"
	"wharfinger/path"
	"wharfinger/probe"
	"wharfinger/tree"
)

// model is a tree as the document words it: all its states, the elder ahead.
type model struct {
	now    int
	states []kept
}

// kept is a state.
type kept struct {
	path, data string
	from       int
	gone       bool
}

// to: the version up to which a state is.
func (m *model) to(s kept) int {
	last := m.now
	for _, other := range m.states {
		if other.path == s.path && other.from > s.from {
			last = min(last, other.from-1)
		}
	}
	return last
}

// files: those at a version.
func (m *model) files(version int) map[string]string {
	files := map[string]string{}
	for _, s := range m.states {
		if s.from > version {
			break
		}
		files[s.path] = s.data
		if s.gone {
			delete(files, s.path)
		}
	}
	return files
}

// check looks at changes as the document words it.
func (m *model) check(list []tree.Change) api.Fault {
	files := m.files(m.now)
	would := m.files(m.now)
	for i, c := range list {
		_, found := files[c.Path]
		twice := slices.ContainsFunc(list[:i], func(d tree.Change) bool { return d.Path == c.Path })
		for _, wrong := range []struct {
			is bool
			e  api.Errno
		}{
			{path.Check(c.Path) != nil, api.ErrPath},
			{twice, api.ErrTwice},
			{c.Gone && len(c.Data) > 0, api.ErrForm},
			{c.Gone && !found, api.ErrMissing},
		} {
			if wrong.is {
				return api.Fault{At: i, Err: wrong.e}
			}
		}
		would[c.Path] = string(c.Data)
		if c.Gone {
			delete(would, c.Path)
		}
	}
	size := 0
	for p, data := range would {
		size += len(data)
		for q := range would {
			if strings.HasPrefix(q, p+"/") {
				return api.Fault{At: len(list), Err: api.ErrPath}
			}
		}
	}
	if len(would) > 64 || size > 262144 || m.now == 1048576 {
		return api.Fault{At: len(list), Err: api.ErrFull}
	}
	return api.Fault{}
}

func (m *model) commit(list []tree.Change) (int, api.Fault) {
	if fault := m.check(list); fault.Err != api.OK {
		return 0, fault
	}
	m.now++
	for _, c := range list {
		m.states = append(m.states, kept{c.Path, string(c.Data), m.now, c.Gone})
	}
	return m.now, api.Fault{}
}

func (m *model) forget(keep []int) int {
	var left []kept
	for _, s := range m.states {
		isAt := func(version int) bool { return s.from <= version && version <= m.to(s) }
		if isAt(m.now) || slices.ContainsFunc(keep, isAt) {
			left = append(left, s)
		}
	}
	for {
		first := map[string]struct{}{}
		i := slices.IndexFunc(left, func(s kept) bool {
			_, later := first[s.path]
			first[s.path] = struct{}{}
			return !later && s.gone
		})
		if i < 0 {
			break
		}
		left = slices.Delete(left, i, i+1)
	}
	count := len(m.states) - len(left)
	m.states = left
	return count
}

// pool: texts that tell something: some are paths, some clash.
func pool() []string {
	return []string{"a", "a/b", "a/b/c", "a.b", "b", "ab", "a/", ""}
}

// same: does the tree tell of itself what the model does?
func (m *model) same(x *tree.Tree) error {
	if x.Now() != m.now || x.States() != len(m.states) {
		return fmt.Errorf("Now %d, States %d, not %d, %d", x.Now(), x.States(), m.now, len(m.states))
	}
	for version := -1; version <= m.now+1; version++ {
		if err := m.sameVersion(x, version); err != nil {
			return err
		}
	}
	return nil
}

func (m *model) sameVersion(x *tree.Tree, version int) error {
	files := m.files(version)
	wrong := version < 0 || version > m.now
	for _, p := range pool() {
		data, found := files[p]
		want := api.OK
		if wrong {
			data, want = "", api.ErrRange
		} else if !found {
			want = api.ErrMissing
		}
		if b, e := x.Read(version, p); e != want || string(b) != data {
			return fmt.Errorf("Read %d %q: %q, %d, not %q, %d", version, p, b, e, data, want)
		}
	}
	for _, root := range append(pool(), "c") {
		var list []string
		size, want := 0, api.OK
		for p, data := range files {
			if root == "" || strings.HasPrefix(p, root+"/") {
				list = append(list, p)
				size += len(data)
			}
		}
		slices.Sort(list)
		if wrong {
			list, size, want = nil, 0, api.ErrRange
		}
		if l, e := x.List(version, root); e != want || !slices.Equal(l, list) {
			return fmt.Errorf("List %d %q: %q, %d, not %q, %d", version, root, l, e, list, want)
		}
		if n := x.Bytes(version, root); n != size {
			return fmt.Errorf("Bytes %d %q: %d, not %d", version, root, n, size)
		}
	}
	return nil
}

// step: the same is done to a tree and to the model; do both answer the same?
func (m *model) step(x *tree.Tree, changes []tree.Change, keep []int, forget bool) error {
	if forget {
		want := m.forget(keep)
		if n := x.Forget(keep...); n != want {
			return fmt.Errorf("Forget %v: %d, not %d", keep, n, want)
		}
		return nil
	}
	if fault := probe.Fault(x.Check(changes...)); fault != m.check(changes) {
		return fmt.Errorf("Check %v: %v", changes, fault.Error())
	}
	want, fault := m.commit(changes)
	if version, err := x.Commit(changes...); version != want || probe.Fault(err) != fault {
		return fmt.Errorf("Commit %v: %d, %v, not %d, %v", changes, version, err, want, fault.Error())
	}
	return nil
}

// play does what bytes tell to a tree and to the model.
func play(script []byte) error {
	x, m := tree.New(), &model{}
	for done := 0; len(script) > 0 && done < 60; done++ {
		n := min(int(script[0]&3), len(script)-1)
		forget := script[0]&4 > 0
		args := script[1 : 1+n]
		script = script[1+n:]
		var changes []tree.Change
		var keep []int
		for _, arg := range args {
			c := tree.Change{Path: pool()[arg&7], Gone: arg&8 > 0, Data: probe.Bytes(int(arg >> 5))}
			changes = append(changes, c)
			keep = append(keep, int(arg)%(m.now+3)-1)
			if arg > 250 {
				keep = append(keep, math.MinInt, math.MaxInt)
			}
		}
		if err := m.step(x, changes, keep, forget); err != nil {
			return fmt.Errorf("step %d: %w", done, err)
		}
		if err := m.same(x); err != nil {
			return fmt.Errorf("behind step %d: %w", done, err)
		}
	}
	return nil
}

// P1, P10.1 to P10.4: whatever is done to a tree.
func FuzzPlay(f *testing.F) {
	f.Add([]byte{1, 0x20, 1, 0x40, 4, 1, 8, 5, 1, 4})
	f.Add([]byte{2, 0x21, 0x24, 2, 9, 0x20, 2, 8, 0x42, 5, 2, 4})
	f.Add([]byte{1, 4, 0, 1, 12, 1, 4, 0, 1, 12, 6, 1, 3, 5, 0, 4})
	f.Add(probe.Bytes(200))
	f.Fuzz(func(t *testing.T, script []byte) {
		if err := play(script); err != nil {
			t.Error(err)
		}
	})
}

// P10.1 to P10.4: many scripts of no simple order.
func TestPlay(t *testing.T) {
	for n := range 400 {
		script := probe.Bytes(n)
		if err := play(script[:min(n, 150)]); err != nil {
			t.Fatalf("script %d: %v", n, err)
		}
	}
}

// P10.1, P10.4: every short row of steps on one path, with others beside it.
func TestEveryShortRow(t *testing.T) {
	steps := []struct {
		changes []tree.Change
		keep    []int
		forget  bool
	}{
		{changes: []tree.Change{put("a", "x")}},
		{changes: []tree.Change{put("a", "longer"), put("b", "y")}},
		{changes: []tree.Change{gone("a")}},
		{changes: nil},
		{forget: true},
		{forget: true, keep: []int{1}},
		{forget: true, keep: []int{2, 1, 2}},
		{forget: true, keep: []int{3, -1}},
	}
	for row := range probe.Rows([]byte{0, 1, 2, 3, 4, 5, 6, 7}, 5) {
		x, m := tree.New(), &model{}
		for _, i := range row {
			if err := m.step(x, steps[i].changes, steps[i].keep, steps[i].forget); err != nil {
				t.Fatalf("%v: %v", row, err)
			}
		}
		if err := m.same(x); err != nil { // behind fewer steps a shorter row tells
			t.Fatalf("%v: %v", row, err)
		}
	}
}
