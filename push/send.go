package push

import (
	"bytes"
	"errors"

	"wharfinger/api"
	"wharfinger/code"
	"wharfinger/patch"
	"wharfinger/sum"
	"wharfinger/tree"
)

// Tell: a file, told by the sums of the old one; true: it is to be sent whole.
func (j *Job) Tell(i int, t patch.Told) (bool, api.Errno) {
	if e := j.refused(i); e != api.OK {
		return false, e
	}
	switch {
	case j.files[i].told:
		return false, api.ErrPhase
	case t.Cut != sum.Whole:
		return false, api.ErrForm
	}
	old, _ := j.old(i)
	data, err := t.Apply(old, Size)
	switch {
	case errors.Is(err, api.ErrDigest):
		j.files[i].told = true
		return true, api.OK
	case err != nil:
		return false, code.Number(err)
	case len(data) > MaxFile:
		return false, api.ErrLong
	}
	j.take(i, tree.Change{Data: data})
	return false, api.OK
}

// Full: a file, whole.
func (j *Job) Full(i int, data []byte) api.Errno {
	if e := j.refused(i); e != api.OK {
		return e
	}
	if len(data) > MaxFile {
		return api.ErrLong
	}
	j.take(i, tree.Change{Data: bytes.Clone(data)})
	return api.OK
}

// Gone: a file is to be taken out.
func (j *Job) Gone(i int) api.Errno {
	if e := j.refused(i); e != api.OK {
		return e
	}
	if _, found := j.old(i); !found {
		return api.ErrMissing
	}
	j.take(i, tree.Change{Gone: true})
	return api.OK
}

// refused: why the i-th file can't be sent, in whatever way; OK: it can.
func (j *Job) refused(i int) api.Errno {
	switch {
	case j.committed:
		return api.ErrPhase
	case !j.has(i):
		return api.ErrRange
	case j.files[i].sent:
		return api.ErrTwice
	}
	return api.OK
}

// take: the i-th file is sent; the change is that at its path.
func (j *Job) take(i int, c tree.Change) {
	f := &j.files[i]
	c.Path = f.path
	f.change, f.sent = c, true
}
