package code_test

import (
	"errors"
	"fmt"
	"testing"

	"wharfinger/api"
	"wharfinger/code"
)

// odd is an error whose methods panic.
type odd struct{}

func (odd) Error() string { panic("Error") }
func (odd) Unwrap() error { panic("Unwrap") }

// wraps wraps an error, and has a method As that says no.
type wraps struct{ inner error }

func (w wraps) Error() string { return "wraps" }
func (w wraps) Unwrap() error { return w.inner }
func (w wraps) As(any) bool   { return false }

// P3.4: of an Errno, of a Fault, of what wraps one of them, and of what doesn't.
func TestNumberAndPlace(t *testing.T) {
	fault := &api.Fault{At: 7, Err: api.ErrForm}
	other := errors.New("other")
	for i, c := range []struct {
		err    error
		number api.Errno
		place  int
	}{
		{nil, api.OK, -1},
		{other, api.OK, -1},
		{fmt.Errorf("around: %w", other), api.OK, -1},
		{errors.Join(other, other), api.OK, -1},
		{api.OK, api.OK, -1},
		{api.ErrForm, api.ErrForm, -1},
		{api.Errno(-5), api.Errno(-5), -1},
		{api.Errno(12345), api.Errno(12345), -1},
		{fault, api.ErrForm, 7},
		{&api.Fault{At: 0, Err: api.ErrShort}, api.ErrShort, 0},
		{&api.Fault{At: -3, Err: api.ErrShort}, api.ErrShort, -3},
		{&api.Fault{At: 5}, api.OK, 5},
		{fmt.Errorf("around: %w", api.ErrGone), api.ErrGone, -1},
		{fmt.Errorf("around: %w", fault), api.ErrForm, 7},
		{fmt.Errorf("far: %w", fmt.Errorf("around: %w", fault)), api.ErrForm, 7},
		{wraps{wraps{fault}}, api.ErrForm, 7},
		{errors.Join(other, fault), api.ErrForm, 7},
		{errors.Join(fault, api.ErrGone), api.ErrForm, 7},
		{errors.Join(api.ErrGone, fault), api.ErrGone, 7},
		{fmt.Errorf("%w and %w", fault, &api.Fault{At: 9, Err: api.ErrRange}), api.ErrForm, 7},
		{fmt.Errorf("not wrapped: %v", fault), api.OK, -1},
	} {
		if got := code.Number(c.err); got != c.number {
			t.Errorf("%d: Number of %v: %d, not %d", i, c.err, got, c.number)
		}
		if got := code.Place(c.err); got != c.place {
			t.Errorf("%d: Place of %v: %d, not %d", i, c.err, got, c.place)
		}
	}
	if *fault != (api.Fault{At: 7, Err: api.ErrForm}) {
		t.Error("the Fault was changed")
	}
}

// P1: errors that panic themselves are taken too.
func TestErrorsThatPanic(t *testing.T) {
	for _, err := range []error{(*api.Fault)(nil), odd{}, wraps{odd{}}, wraps{(*api.Fault)(nil)}, wraps{nil}} {
		if code.Number(err) != api.OK || code.Place(err) != -1 {
			t.Errorf("%T: a number or a place of none", err)
		}
	}
}
