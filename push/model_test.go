package push_test

import (
	"bytes"
	"errors"
	"fmt"
	"maps"
	"slices"
	"strings"
	"testing"

	"wharfinger/api"
	"wharfinger/code"
	"wharfinger/conf"
	"wharfinger/delta"
	"wharfinger/patch"
	"wharfinger/probe"
	"wharfinger/push"
	"wharfinger/sum"
	"wharfinger/tree"
	"wharfinger/view"
)

// model is a store's last version, and a job, as the document words them.
type model struct {
	files     map[string]string
	now       int
	m         conf.Module
	paths     []string
	sent      []*tree.Change // nil: it wasn't
	redo      []bool
	committed bool
}

// clashing: is one of the two beneath the other one?
func clashing(p, q string) bool {
	return strings.HasPrefix(p, q+"/") || strings.HasPrefix(q, p+"/")
}

// begin: a job at these paths, which can be.
func (m *model) begin(in conf.Module, names []string) {
	m.m, m.paths, m.committed = in, nil, false
	for _, name := range names {
		m.paths = append(m.paths, strings.TrimPrefix(in.Root+"/"+name, "/"))
	}
	m.sent, m.redo = make([]*tree.Change, len(names)), make([]bool, len(names))
}

// before: what each answers first of the i-th file.
func (m *model) before(i int) api.Errno {
	switch {
	case m.committed:
		return api.ErrPhase
	case i < 0 || i >= len(m.paths):
		return api.ErrRange
	case m.sent[i] != nil:
		return api.ErrTwice
	}
	return api.OK
}

func (m *model) tell(i int, x patch.Told) (bool, api.Errno) {
	if e := m.before(i); e != api.OK {
		return false, e
	}
	if m.redo[i] {
		return false, api.ErrPhase
	}
	if x.Cut != 32 {
		return false, api.ErrForm
	}
	data, err := x.Apply([]byte(m.files[m.paths[i]]), 8)
	if errors.Is(err, api.ErrDigest) {
		m.redo[i] = true
		return true, api.OK
	}
	if err != nil {
		return false, code.Number(err)
	}
	return false, m.whole(i, data)
}

func (m *model) full(i int, data []byte) api.Errno {
	if e := m.before(i); e != api.OK {
		return e
	}
	return m.whole(i, data)
}

// whole: the i-th file is this one, if it isn't too long.
func (m *model) whole(i int, data []byte) api.Errno {
	if len(data) > 8192 {
		return api.ErrLong
	}
	m.sent[i] = &tree.Change{Path: m.paths[i], Data: bytes.Clone(data)}
	return api.OK
}

func (m *model) gone(i int) api.Errno {
	if e := m.before(i); e != api.OK {
		return e
	}
	if _, found := m.files[m.paths[i]]; !found {
		return api.ErrMissing
	}
	m.sent[i] = &tree.Change{Path: m.paths[i], Gone: true}
	return api.OK
}

// changes: of the files that were sent.
func (m *model) changes() []tree.Change {
	var list []tree.Change
	for _, c := range m.sent {
		if c != nil {
			list = append(list, *c)
		}
	}
	return list
}

// with: the files that there would be with changes.
func (m *model) with(list []tree.Change) map[string]string {
	would := maps.Clone(m.files)
	for _, c := range list {
		would[c.Path] = string(c.Data)
		if c.Gone {
			delete(would, c.Path)
		}
	}
	return would
}

func (m *model) commit() (int, api.Errno) {
	if m.committed || len(m.changes()) < len(m.paths) {
		return 0, api.ErrPhase
	}
	would := m.with(m.changes())
	size, clash := 0, false
	for p, data := range would {
		if m.m.Root == "" || strings.HasPrefix(p, m.m.Root+"/") {
			size += len(data)
		}
		for q := range would {
			clash = clash || clashing(p, q)
		}
	}
	if size > m.m.Quota {
		return 0, api.ErrQuota
	}
	if clash {
		return 0, api.ErrPath
	}
	m.files, m.committed = would, true
	m.now++
	return m.now, api.OK
}

// same: does the job tell of itself, and the store of its last version, what the model does?
func (m *model) same(s *view.Store, j *push.Job) error {
	if got := files(s); s.Now() != m.now || !maps.Equal(got, m.files) {
		return fmt.Errorf("at %d: %q, not at %d: %q", s.Now(), got, m.now, m.files)
	}
	if len(m.paths) == 0 { // nobody began
		return nil
	}
	list := m.changes()
	if j.Len() != len(m.paths) || j.Left() != len(m.paths)-len(list) || !sameChanges(j.Changes(), list) {
		return fmt.Errorf("Len %d, Left %d, Changes %v, not %v", j.Len(), j.Left(), j.Changes(), list)
	}
	words := j.Words()
	if len(words) != len(m.paths) {
		return fmt.Errorf("%d words", len(words))
	}
	for i, p := range m.paths {
		want := probe.Sums([]byte(m.files[p]), 8, 4)
		if got, e := j.Sums(i); e != api.OK || !sameSums(got, want) || words[i].Num != i || !sameSums(words[i].Sums, want) {
			return fmt.Errorf("%d: %v, %d, %v, not %v", i, got, e, words[i], want)
		}
	}
	return nil
}

// script is bytes that tell what is done; behind its end there are noughts.
type script []byte

func (s *script) next(below int) int {
	if len(*s) == 0 {
		return 0
	}
	x := int((*s)[0])
	*s = (*s)[1:]
	return x % below
}

// text: some bytes, which often have blocks of the old ones.
func (s *script) text(old string) []byte {
	rest := strings.Repeat("abcdefgh01234567", 3)[s.next(8):]
	rest = rest[:s.next(24)]
	switch s.next(5) {
	case 0:
		return []byte(old + rest)
	case 1:
		return []byte(rest + old)
	case 2:
		return []byte(old[len(old)/2:])
	case 3:
		return []byte(strings.Repeat("long", 2048+s.next(2)))
	}
	return []byte(rest)
}

// told: a file as somebody may tell it, who has the sums of the old one.
func (s *script) told(old string) patch.Told {
	sums := probe.Sums([]byte(old), 8, 4)
	data := s.text(old)
	x, _ := patch.Tell(sums, data, 32)
	switch s.next(8) {
	case 0:
		x.Sum[31] ^= 1
	case 1:
		x.Cut, x.Sum = 4, sum.Cut(4, data)
	case 2:
		x.Tokens = append(x.Tokens, probe.Blocks(s.next(4), 1))
		made, _ := patch.Join([]byte(old), 8, x.Tokens)
		x.Sum = sum.Of(made)
	case 3:
		x.Tokens = append(x.Tokens, delta.Token{First: -1})
	}
	return x
}

// job: a module, and names in it, that can be.
func (s *script) job() (conf.Module, []string) {
	m := of([]string{"r", "", "r/s", "t"}[s.next(4)], []int{1 << 18, 60, 30, 8, 0, -1}[s.next(6)])
	var names []string
	for range 1 + s.next(4) {
		name := []string{"a", "b", "a/c", "s/a", "r/a", "d"}[s.next(6)]
		if !slices.ContainsFunc(names, func(p string) bool { return p == name || clashing(p, name) }) {
			names = append(names, name)
		}
	}
	return m, names
}

// other: a file that somebody else puts, or takes out, while the job isn't in its way; false: it is.
func (m *model) other(s *script) (tree.Change, bool) {
	c := put([]string{"r/z", "t/a", "z", "r/s/y", "r/a", "a/c"}[s.next(6)], string(s.text("")))
	_, found := m.files[c.Path]
	if s.next(2) == 0 && found {
		c = gone(c.Path)
	}
	for p := range m.files {
		if clashing(p, c.Path) {
			return c, false
		}
	}
	return c, m.committed || !slices.ContainsFunc(m.paths, func(p string) bool { return p == c.Path || clashing(p, c.Path) })
}

// step does the same to both; do both answer the same?
func (m *model) step(s *script, store *view.Store, j *push.Job) error {
	kind, i := s.next(8), s.next(6)-1
	old := ""
	if i >= 0 && i < len(m.paths) {
		old = m.files[m.paths[i]]
	}
	var got, want, version, wantVersion = api.OK, api.OK, 0, 0
	var redo, wantRedo bool
	switch {
	case kind == 0:
		c, can := m.other(s)
		if !can {
			return nil
		}
		_, err := store.Commit(c)
		m.files, got = m.with(changes(c)), code.Number(err)
		m.now++
	case kind < 4:
		x := s.told(old)
		redo, got = j.Tell(i, x)
		wantRedo, want = m.tell(i, x)
	case kind == 4:
		data := s.text(old)
		got, want = j.Full(i, data), m.full(i, data)
	case kind == 5:
		got, want = j.Gone(i), m.gone(i)
	default:
		version, got = j.Commit()
		wantVersion, want = m.commit()
	}
	if got != want || redo != wantRedo || version != wantVersion {
		return fmt.Errorf("kind %d of %d: %d, %v, %d, not %d, %v, %d", kind, i, got, redo, version, want, wantRedo, wantVersion)
	}
	return nil
}

// play does what bytes tell to a store with one job behind the other, and to the model.
func play(all []byte) error {
	s := script(all)
	store, m := view.New(), &model{files: map[string]string{}}
	var j *push.Job
	for done := 0; len(s) > 0 && done < 300; done++ {
		if j == nil || s.next(16) == 0 || m.committed && s.next(3) == 0 {
			in, names := s.job()
			next, err := push.New(store, in, names...)
			if err != nil {
				return fmt.Errorf("step %d: New %q, %q: %w", done, in.Root, names, err)
			}
			j = next
			m.begin(in, names)
		}
		err := m.step(&s, store, j)
		if err == nil {
			err = m.same(store, j)
		}
		if err != nil {
			return fmt.Errorf("step %d: %w", done, err)
		}
	}
	return nil
}

// P17.1 to P17.4: many scripts of no simple order.
func TestPlay(t *testing.T) {
	for n := range 400 {
		if err := play(probe.Bytes(n)); err != nil {
			t.Fatalf("script %d: %v", n, err)
		}
	}
	if err := play(probe.Bytes(4000)); err != nil {
		t.Fatal(err)
	}
}

// P1, P17.1 to P17.4: whatever is done to jobs.
func FuzzPlay(f *testing.F) {
	f.Add([]byte{0, 0, 1, 0, 1, 4, 1, 3, 5, 4, 6})
	f.Add(probe.Bytes(300))
	f.Fuzz(func(t *testing.T, all []byte) {
		if err := play(all); err != nil {
			t.Error(err)
		}
	})
}

// P1, P17.3: any numbers, tokens of any shape, any data.
func FuzzAny(f *testing.F) {
	f.Add(0, 0, 1, []byte("x"), 32, []byte("old text, more"), 20)
	f.Add(-1, 1<<62, 1<<62, []byte{}, -5, []byte{}, -1)
	f.Fuzz(func(t *testing.T, i, first, count int, data []byte, cut int, old []byte, quota int) {
		s, m := view.New(), &model{files: map[string]string{"r/a": string(old)}, now: 1}
		if _, err := s.Commit(put("r/a", string(old))); err != nil || len(old) > 8192 {
			return
		}
		m.begin(of("r", quota), []string{"a", "b"})
		j, _ := push.New(s, m.m, "a", "b")
		for _, x := range []patch.Told{
			{Tokens: []delta.Token{{First: first, Count: count, Data: data}}, Cut: cut},
			{Tokens: []delta.Token{{Data: data}, probe.Blocks(first, count)}, Cut: 32},
			{Tokens: []delta.Token{{Data: data}}, Cut: 32, Sum: sum.Of(data)},
		} {
			for _, i := range []int{i, 0} {
				redo, e := j.Tell(i, x)
				if wantRedo, want := m.tell(i, x); redo != wantRedo || e != want {
					t.Errorf("Tell %d: %v, %d, not %v, %d", i, redo, e, wantRedo, want)
				}
			}
		}
		for _, i := range []int{i, 0, 1} {
			if e, want := j.Full(i, data), m.full(i, data); e != want {
				t.Errorf("Full %d: %d, not %d", i, e, want)
			}
			if e, want := j.Gone(i), m.gone(i); e != want {
				t.Errorf("Gone %d: %d, not %d", i, e, want)
			}
		}
		for range 2 {
			version, e := j.Commit()
			if wantVersion, want := m.commit(); version != wantVersion || e != want {
				t.Errorf("Commit: %d, %d, not %d, %d", version, e, wantVersion, want)
			}
			if err := m.same(s, j); err != nil {
				t.Error(err)
			}
		}
	})
}
