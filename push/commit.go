package push

import (
	"bytes"

	"wharfinger/api"
	"wharfinger/code"
	"wharfinger/tree"
)

// Left: how many files weren't sent yet.
func (j *Job) Left() int {
	count := 0
	for _, f := range j.files {
		if !f.sent {
			count++
		}
	}
	return count
}

// Changes: what was sent so far, in the order of the files.
func (j *Job) Changes() []tree.Change {
	var list []tree.Change
	for _, f := range j.files {
		if f.sent {
			c := f.change
			c.Data = bytes.Clone(c.Data)
			list = append(list, c)
		}
	}
	return list
}

// Commit: all files are the last version: its number.
func (j *Job) Commit() (int, api.Errno) {
	switch {
	case j.committed || j.Left() > 0:
		return 0, api.ErrPhase
	case j.bytes() > j.quota:
		return 0, api.ErrQuota
	}
	version, err := j.store.Commit(j.Changes()...)
	if err != nil {
		return 0, code.Number(err)
	}
	j.committed = true
	return version, api.OK
}

// bytes: how many bytes the files beneath the module's root would have; all of the job's lie there.
func (j *Job) bytes() int {
	count := j.store.Bytes(j.store.Now(), j.root)
	for i, f := range j.files {
		old, _ := j.old(i)
		count += len(f.change.Data) - len(old)
	}
	return count
}
