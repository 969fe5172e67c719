package tree

import "slices"

// Forget: versions that aren't named, and aren't the last one, need not be told right any more; how many states of files are forgotten.
func (t *Tree) Forget(keep ...int) int {
	versions := slices.Sorted(slices.Values(keep))
	forgotten := 0
	for p, list := range t.states {
		left := needed(list, versions)
		forgotten += len(list) - len(left)
		if len(left) == 0 {
			delete(t.states, p)
		} else {
			t.states[p] = left
		}
	}
	return forgotten
}

// needed: those of a path's states that are at the last version, or at one of these, which are in their order; but none at the beginning that say that the file is gone: without them there is no file either.
func needed(list []state, versions []int) []state {
	var left []state
	for i, s := range list {
		if s.gone && len(left) == 0 {
			continue
		}
		if i == len(list)-1 || between(versions, s.from, list[i+1].from) {
			left = append(left, s)
		}
	}
	return left
}

// between: is one of the versions, which are in their order, from or behind it, and ahead of next?
func between(versions []int, from, next int) bool {
	i, _ := slices.BinarySearch(versions, from)
	return i < len(versions) && versions[i] < next
}
