package tree

import (
	"bytes"

	"wharfinger/api"
	"wharfinger/path"
)

// Change is a file that is put, or, if Gone, taken out.
type Change struct {
	Path string
	Data []byte
	Gone bool
}

// Check: can changes be made? The Fault's place is the change's number; that of a count, or a clash with a file that stays, how many there are.
func (t *Tree) Check(list ...Change) error {
	files := t.sizes(t.now, "") // from here on those that there would be
	changed := map[string]struct{}{}
	for i, c := range list {
		_, twice := changed[c.Path]
		_, found := files[c.Path] // as at the last version, unless it is changed twice
		if e := c.wrong(twice, found); e != api.OK {
			return &api.Fault{At: i, Err: e}
		}
		changed[c.Path] = struct{}{}
		if c.Gone {
			delete(files, c.Path)
		} else {
			files[c.Path] = len(c.Data)
		}
	}
	switch {
	case clash(files, list):
		return &api.Fault{At: len(list), Err: api.ErrPath}
	case len(files) > MaxFiles || total(files) > MaxBytes || t.now == MaxVersion:
		return &api.Fault{At: len(list), Err: api.ErrFull}
	}
	return nil
}

// Commit: changes are made, all at once: a new version.
func (t *Tree) Commit(list ...Change) (int, error) {
	if err := t.Check(list...); err != nil {
		return 0, err
	}
	t.now++
	for _, c := range list {
		next := state{from: t.now, data: bytes.Clone(c.Data), gone: c.Gone}
		t.states[c.Path] = append(t.states[c.Path], next)
	}
	return t.now, nil
}

// wrong: why a change can't be, its path being changed ahead of it or not, its file being there or not; OK: it can.
func (c Change) wrong(twice, found bool) api.Errno {
	switch {
	case path.Check(c.Path) != nil:
		return api.ErrPath
	case twice:
		return api.ErrTwice
	case c.Gone && len(c.Data) > 0:
		return api.ErrForm
	case c.Gone && !found:
		return api.ErrMissing
	}
	return api.OK
}

// clash: do two of the files clash? One of them is put by these changes, as those that stay don't clash with each other.
func clash(files map[string]int, list []Change) bool {
	for _, c := range list {
		if c.Gone {
			continue
		}
		for p := range files {
			if path.Clash(p, c.Path) {
				return true
			}
		}
	}
	return false
}
