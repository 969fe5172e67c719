package pull_test

import (
	"fmt"
	"maps"
	"slices"
	"strings"
	"testing"

	"wharfinger/api"
	"wharfinger/block"
	"wharfinger/code"
	"wharfinger/conf"
	"wharfinger/patch"
	"wharfinger/path"
	"wharfinger/probe"
	"wharfinger/pull"
	"wharfinger/tree"
	"wharfinger/view"
	"wharfinger/word"
)

// model is a store, and the jobs that were begun, as the document words them.
type model struct {
	versions []map[string]string // the files at each, by their paths
	looks    []int               // at which versions others look
	jobs     []*modelJob
}

// modelJob is a job: all that it can tell.
type modelJob struct {
	real    *pull.Job
	version int
	names   []string
	data    []string
	ended   bool
}

func (m *model) now() int { return len(m.versions) - 1 }

// pinned: at which versions somebody looks, for each look once.
func (m *model) pinned() []int {
	list := slices.Clone(m.looks)
	for _, j := range m.jobs {
		if !j.ended {
			list = append(list, j.version)
		}
	}
	slices.Sort(list)
	return list
}

// begin: a job of the last version, or why there is none.
func (m *model) begin(module, root string) (*modelJob, api.Errno) {
	j := &modelJob{version: m.now()}
	full := module + "/" + root
	switch {
	case root == "":
		full = module
	case module == "":
		full = root
	}
	switch {
	case root != "" && path.Check(full) != nil:
		return nil, api.ErrPath
	case len(m.pinned()) == 64:
		return nil, api.ErrFull
	}
	files := m.versions[m.now()]
	for _, p := range slices.Sorted(maps.Keys(files)) {
		if full == "" || strings.HasPrefix(p, full+"/") || root != "" && p == full {
			j.names = append(j.names, strings.TrimPrefix(strings.TrimPrefix(p, module), "/"))
			j.data = append(j.data, files[p])
		}
	}
	return j, api.OK
}

// why: the error of the i-th file; OK: it can be had.
func (j *modelJob) why(i int) api.Errno {
	switch {
	case j.ended:
		return api.ErrPhase
	case i < 0 || i >= len(j.names):
		return api.ErrRange
	}
	return api.OK
}

// give: a file, told by these sums.
func (j *modelJob) give(i int, s block.Signature) (patch.Told, api.Errno) {
	if e := j.why(i); e != api.OK {
		return patch.Told{}, e
	}
	return patch.Tell(s, []byte(j.data[i]), 32)
}

// same: does a job tell of itself what the model does?
func (j *modelJob) same() error {
	w := j.real.Word()
	if got := j.real.Names(); j.real.Version() != j.version || !slices.Equal(got, j.names) || !slices.Equal(w.Paths, j.names) {
		return fmt.Errorf("%d, %q, %q, not %d, %q", j.real.Version(), got, w.Paths, j.version, j.names)
	}
	if f, e := w.Frame(); w.Kind != word.List || w.Num != j.version || e != api.OK || f.Kind != word.List {
		return fmt.Errorf("the word %v, %d", w, e)
	}
	for i := -1; i <= len(j.names); i++ {
		data, want := "", j.why(i)
		if want == api.OK {
			data = j.data[i]
		}
		if b, e := j.real.Again(i); e != want || string(b) != data {
			return fmt.Errorf("Again %d: %q, %d, not %q, %d", i, b, e, data, want)
		}
	}
	return nil
}

// same: do the store and all jobs tell of themselves what the model does?
func (m *model) same(s *view.Store) error {
	if got, want := s.Pinned(), slices.Compact(m.pinned()); s.Now() != m.now() || !slices.Equal(got, want) {
		return fmt.Errorf("Now %d, Pinned %v, not %d, %v", s.Now(), got, m.now(), want)
	}
	for i, j := range m.jobs {
		if err := j.same(); err != nil {
			return fmt.Errorf("job %d: %w", i, err)
		}
	}
	return nil
}

// script is bytes that tell what is done; behind its end there are noughts.
type script []byte

func (s *script) next(below int) int {
	if len(*s) == 0 {
		return 0
	}
	x := int((*s)[0])
	*s = (*s)[1:]
	return x % below
}

// text: some bytes, which often have blocks of others.
func (s *script) text() string {
	from := s.next(8)
	return strings.Repeat("abcdefgh", 4)[from : from+s.next(24)]
}

// sums: those of some bytes, now and then such as can't be.
func (s *script) sums() block.Signature {
	sums := probe.Sums([]byte(s.text()), []int{1, 2, 3, 8, 8}[s.next(5)], []int{0, 4, 32}[s.next(3)])
	switch s.next(12) {
	case 0:
		sums.Size = s.next(3) - 1
	case 1:
		sums.Length += s.next(3) - 1
	case 2:
		sums.Cut += s.next(60) - 30
	case 3:
		sums.Length = 5000
	}
	return sums
}

// commit: files are put, or taken out, which can be.
func (m *model) commit(s *script, store *view.Store) error {
	would := maps.Clone(m.versions[m.now()])
	changed := map[string]tree.Change{}
	for range s.next(4) {
		p := []string{"r/a", "r/b/c", "r/b/d", "r/b.x", "s", "rr/a", "r/r/a", "t/a"}[s.next(8)]
		c := put(p, s.text())
		if _, found := m.versions[m.now()][p]; found && s.next(2) == 0 {
			c = gone(p)
		}
		changed[p] = c
		would[p] = string(c.Data)
		if c.Gone {
			delete(would, p)
		}
	}
	if _, err := store.Commit(slices.Collect(maps.Values(changed))...); err != nil {
		return err
	}
	m.versions = append(m.versions, would)
	return nil
}

// beginBoth: the same is wanted of both.
func (m *model) beginBoth(s *script, store *view.Store) error {
	module := []string{"r", "", "r/b", "s", "r/r", "none", "r/"}[s.next(7)]
	root := []string{"", "a", "b", "b/c", "r", "r/b", "s", "b/", ".", "b.x", "none"}[s.next(11)]
	want, why := m.begin(module, root)
	got, err := pull.New(store, conf.Module{Root: module}, root)
	if code.Number(err) != why || (err == nil) != (why == api.OK) || (got == nil) != (want == nil) {
		return fmt.Errorf("New %q, %q: %v, not %d", module, root, err, why)
	}
	if want != nil {
		want.real = got
		m.jobs = append(m.jobs, want)
	}
	return nil
}

// giveBoth: a job gives a file.
func (m *model) giveBoth(s *script) error {
	if len(m.jobs) == 0 {
		return nil
	}
	j, i, sums := m.jobs[s.next(len(m.jobs))], s.next(8)-1, s.sums()
	got, e := j.real.Give(i, sums)
	if want, why := j.give(i, sums); e != why || !sameTold(got, want) {
		return fmt.Errorf("Give %d by %v: %v, %d, not %v, %d", i, sums, got, e, want, why)
	}
	return nil
}

// endBoth: a job is over.
func (m *model) endBoth(s *script) error {
	if len(m.jobs) == 0 {
		return nil
	}
	j := m.jobs[s.next(len(m.jobs))]
	want := api.OK
	if j.ended {
		want = api.ErrPhase
	}
	j.ended = true
	if e := j.real.End(); e != want {
		return fmt.Errorf("End: %d, not %d", e, want)
	}
	return nil
}

// lookBoth: others look at the last version, or let one go at which they look.
func (m *model) lookBoth(s *script, store *view.Store) error {
	if len(m.looks) > 0 && s.next(2) == 0 {
		i := s.next(len(m.looks))
		e := store.Unpin(m.looks[i])
		m.looks = slices.Delete(m.looks, i, i+1)
		if e != api.OK {
			return fmt.Errorf("Unpin: %d", e)
		}
		return nil
	}
	for range 1 + s.next(2)*s.next(40) {
		full := len(m.pinned()) == 64
		version, e := store.Pin()
		if full != (e == api.ErrFull) || !full && version != m.now() {
			return fmt.Errorf("Pin: %d, %d", version, e)
		}
		if !full {
			m.looks = append(m.looks, version)
		}
	}
	return nil
}

// play does what bytes tell to a store and its jobs, and to the model.
func play(all []byte) error {
	s := script(all)
	store, m := view.New(), &model{versions: []map[string]string{{}}}
	for step := 0; len(s) > 0 && step < 150; step++ {
		var err error
		switch s.next(9) {
		case 0, 1:
			err = m.commit(&s, store)
		case 2, 3:
			err = m.beginBoth(&s, store)
		case 4, 5, 6:
			err = m.giveBoth(&s)
		case 7:
			err = m.endBoth(&s)
		default:
			err = m.lookBoth(&s, store)
		}
		if err == nil {
			err = m.same(store)
		}
		if err != nil {
			return fmt.Errorf("step %d: %w", step, err)
		}
	}
	return nil
}

// P18.1 to P18.3: many scripts of no simple order.
func TestPlay(t *testing.T) {
	for n := range 400 {
		if err := play(probe.Bytes(n)); err != nil {
			t.Fatalf("script %d: %v", n, err)
		}
	}
	if err := play(probe.Bytes(2000)); err != nil {
		t.Fatal(err)
	}
}

// P1, P18.1 to P18.3: whatever is done to jobs.
func FuzzPlay(f *testing.F) {
	f.Add([]byte{0, 2, 1, 0, 5, 2, 0, 0, 4, 0, 1, 7, 0})
	f.Add(probe.Bytes(300))
	f.Fuzz(func(t *testing.T, all []byte) {
		if err := play(all[:min(len(all), 1000)]); err != nil {
			t.Error(err)
		}
	})
}

// P1, P18.1, P18.2: any module, any root, any number, sums of any shape.
func FuzzAny(f *testing.F) {
	f.Add("r", "a", 0, 8, 4, 20, []byte("some blocks of raw"), []byte("some data"))
	f.Add("", "", -1, -1, -1, -1, []byte{}, []byte{})
	f.Add("r/", "../x", 1<<62, 1<<62, 33, 1<<62, []byte{1}, []byte{2})
	f.Add("no path", "", 1, 1, 0, 4, []byte{0, 0, 0, 0}, []byte("aaaa"))
	f.Fuzz(func(t *testing.T, module, root string, i, size, cut, length int, raw, data []byte) {
		files := map[string]string{"r/a": string(data), "r/b/c": "", "b": "x"}
		s, m := view.New(), &model{versions: []map[string]string{{}, files}}
		list := []tree.Change{{Path: "r/a", Data: data}, put("r/b/c", ""), put("b", "x")}
		if _, err := s.Commit(list...); err != nil { // there are too many bytes
			return
		}
		want, why := m.begin(module, root)
		j, err := pull.New(s, conf.Module{Root: module}, root)
		if code.Number(err) != why || (err == nil) != (why == api.OK) || (j == nil) != (want == nil) {
			t.Fatalf("New %q, %q: %v, not %d", module, root, err, why)
		}
		if j == nil {
			return
		}
		want.real = j
		m.jobs = append(m.jobs, want)
		for range 2 {
			if err := m.same(s); err != nil {
				t.Error(err)
			}
			for _, i := range []int{i, 0} {
				for _, sums := range []block.Signature{{Size: size, Cut: cut, Length: length}, probe.AnySums(size, cut, length, raw), probe.Sums(raw[:min(len(raw), 4096)], 1, 32)} {
					got, e := j.Give(i, sums)
					if told, why := want.give(i, sums); e != why || !sameTold(got, told) {
						t.Errorf("Give %d by %v: %v, %d, not %v, %d", i, sums, got, e, told, why)
					}
				}
			}
			j.End()
			want.ended = true
		}
	})
}
