package code

import (
	"errors"

	"wharfinger/api"
)

// noPlace is the place of an error that has none.
const noPlace = -1

// Number: the number of an error; OK of none.
func Number(err error) api.Errno {
	if number, ok := found[api.Errno](err); ok {
		return number
	}
	return api.OK
}

// Place: the place of an error; -1, if it has none.
func Place(err error) int {
	if fault, ok := found[*api.Fault](err); ok && fault != nil {
		return fault.At
	}
	return noPlace
}

// found: the first error of this type that err is, or wraps.
func found[T error](err error) (target T, ok bool) {
	// Any error may be handed in, one whose own methods panic too, as those of a nil Fault do.
	defer func() {
		if recover() != nil {
			ok = false
		}
	}()
	ok = errors.As(err, &target)
	return target, ok
}
