package path_test

import (
	"errors"
	"fmt"
	"slices"
	"strings"
	"testing"

	"wharfinger/api"
	"wharfinger/code"
	"wharfinger/path"
	"wharfinger/probe"
)

// setAs looks at paths as the document words it: the number of the first that is wrong, and why; OK: none is.
func setAs(list ...string) (int, api.Errno) {
	for i, p := range list {
		if _, wrong := checkAs(p); wrong {
			return i, api.ErrPath
		}
		ahead := slices.Clone(list[:i])
		slices.Sort(ahead)
		for _, other := range ahead {
			if other == p {
				return i, api.ErrTwice
			}
			if strings.Index(other, p+"/") == 0 || strings.Index(p, other+"/") == 0 {
				return i, api.ErrPath
			}
		}
	}
	return 0, api.OK
}

// sameSet: does Set answer what the document asks?
func sameSet(list ...string) error {
	at, number := setAs(list...)
	sorted, err := path.Set(list...)
	if number != api.OK {
		if err == nil || code.Place(err) != at || code.Number(err) != number || len(sorted) > 0 {
			return fmt.Errorf("%q: %q, %v, not %d at %d", list, sorted, err, number, at)
		}
		return nil
	}
	want := slices.Clone(list)
	slices.Sort(want)
	if err != nil || !slices.Equal(sorted, want) {
		return fmt.Errorf("%q: %q, %v, not %q", list, sorted, err, want)
	}
	return nil
}

// P9.3: paths in the order of their bytes.
func TestSet(t *testing.T) {
	for _, c := range []struct {
		list, want []string
	}{
		{nil, nil},
		{[]string{"a"}, []string{"a"}},
		{[]string{"b", "a/x", "a/b"}, []string{"a/b", "a/x", "b"}},
		{[]string{"a/b", "a.b", "a-b", "ab", "a0"}, []string{"a-b", "a.b", "a/b", "a0", "ab"}},
		{[]string{"a_/b", "a-", "a."}, []string{"a-", "a.", "a_/b"}},
		{[]string{"e", "d", "c", "b", "a"}, []string{"a", "b", "c", "d", "e"}},
		{[]string{"a", "b", "c", "d", "e"}, []string{"a", "b", "c", "d", "e"}},
		{[]string{"c", "a", "e", "b", "d"}, []string{"a", "b", "c", "d", "e"}},
	} {
		if got, err := path.Set(c.list...); err != nil || !slices.Equal(got, c.want) {
			t.Errorf("%q: %q, %v", c.list, got, err)
		}
	}
}

// P9.3: the first that is wrong, and why.
func TestSetWrong(t *testing.T) {
	for _, c := range []struct {
		list []string
		want api.Fault
	}{
		{[]string{""}, api.Fault{At: 0, Err: api.ErrPath}},
		{[]string{"a", "b//c"}, api.Fault{At: 1, Err: api.ErrPath}},
		{[]string{"a", "b", "abcdeF"}, api.Fault{At: 2, Err: api.ErrPath}},
		{[]string{"a", "b", "a"}, api.Fault{At: 2, Err: api.ErrTwice}},
		{[]string{"a", "a"}, api.Fault{At: 1, Err: api.ErrTwice}},
		{[]string{"a", "a/b"}, api.Fault{At: 1, Err: api.ErrPath}},
		{[]string{"a/b", "a"}, api.Fault{At: 1, Err: api.ErrPath}},
		{[]string{"a/b", "a/c", "x", "a"}, api.Fault{At: 3, Err: api.ErrPath}},
		{[]string{"a", "a.b", "a-b", "a/b"}, api.Fault{At: 3, Err: api.ErrPath}},
		{[]string{"a/b", "a.b", "a-b", "a"}, api.Fault{At: 3, Err: api.ErrPath}},
		{[]string{"b/c/d/e", "z", "b/c"}, api.Fault{At: 2, Err: api.ErrPath}},
		{[]string{"a", "A", "a"}, api.Fault{At: 1, Err: api.ErrPath}},
		{[]string{"a", "a", "A"}, api.Fault{At: 1, Err: api.ErrTwice}},
		{[]string{"a", "a/b", "a"}, api.Fault{At: 1, Err: api.ErrPath}},
		{[]string{"a", "b", "c", "c/d/e/f/g/h/i"}, api.Fault{At: 3, Err: api.ErrPath}},
		{[]string{"", ""}, api.Fault{At: 0, Err: api.ErrPath}},
	} {
		got, err := path.Set(c.list...)
		if code.Place(err) != c.want.At || !errors.Is(err, c.want.Err) || code.Number(err) != c.want.Err || len(got) > 0 {
			t.Errorf("%q: %q, %v, not %v", c.list, got, err, c.want.Error())
		}
	}
}

// P9.3: with a path that is none Check's error is joined, behind the path's number.
func TestSetJoinsErrors(t *testing.T) {
	_, err := path.Set("a", "b", "cdefG")
	var fault *api.Fault
	if !errors.As(err, &fault) || *fault != (api.Fault{At: 2, Err: api.ErrPath}) || !strings.Contains(err.Error(), path.Check("cdefG").Error()) {
		t.Error(err)
	}
}

// P9.3: a Fault alone tells of two that can't be both.
func TestSetTellsByAFault(t *testing.T) {
	for _, list := range [][]string{{"b", "a", "a"}, {"b", "a", "a/b"}} {
		if _, err := path.Set(list...); probe.Fault(err).At != 2 {
			t.Errorf("%q: %v", list, err)
		}
	}
}

// P9.3: every short list of paths that tell something.
func TestSetEveryShortList(t *testing.T) {
	pool := []string{"a", "a/b", "a/b/c", "a.b", "a-", "ab", "b", "a/", ""}
	for row := range probe.Rows([]byte{0, 1, 2, 3, 4, 5, 6, 7, 8}, 5) {
		var list []string
		for _, i := range row {
			list = append(list, pool[i])
		}
		if err := sameSet(list...); err != nil {
			t.Fatal(err)
		}
	}
}

// P1, P9.3: longer lists.
func TestSetOfMany(t *testing.T) {
	var list []string
	for i, x := range probe.Bytes(1500) {
		list = append(list, fmt.Sprintf("%x/%x", x%16, i*7919%1500))
	}
	for _, l := range [][]string{list, append(slices.Clone(list), list[700]), append(slices.Clone(list), "7"), append(slices.Clone(list), list[3]+"/a")} {
		if err := sameSet(l...); err != nil {
			t.Errorf("%.200s", err)
		}
	}
}

// P2, rule 4: the list is as it was, its spare room too; what is answered is new memory.
func TestSetSharesNothing(t *testing.T) {
	for _, list := range [][]string{{"c", "a", "b", "spare", "room"}, {"a", "b", "c", "spare", "room"}, {"x"}} {
		before := slices.Clone(list)
		n := min(len(list), 3)
		first, _ := path.Set(list[:n]...)
		second, _ := path.Set(list[:n]...)
		want := slices.Clone(second)
		if !slices.Equal(list, before) {
			t.Errorf("%q became %q", before, list)
		}
		for _, spoilt := range [][]string{list, first[:cap(first)]} {
			for i := range spoilt {
				spoilt[i] = "spoilt"
			}
		}
		if !slices.Equal(second, want) {
			t.Errorf("an answer became %q", second)
		}
	}
}

// P2, rule 4: an error that was written into isn't kept.
func TestSetErrorsAreNew(t *testing.T) {
	for _, list := range [][]string{{"a", "a"}, {"a", "a/b"}, {"a", "A"}} {
		_, first := path.Set(list...)
		_, second := path.Set(list...)
		var fault *api.Fault
		if !errors.As(first, &fault) {
			t.Fatal(first)
		}
		fault.At, fault.Err = 77, api.ErrGone
		_, third := path.Set(list...)
		if code.Place(second) != 1 || code.Place(third) != 1 || code.Number(third) == api.ErrGone {
			t.Errorf("%q: %v, %v", list, second, third)
		}
	}
}

// P1, P9.3: any paths.
func FuzzSet(f *testing.F) {
	f.Add("a b a/b")
	f.Add("a.b a-b a/b a")
	f.Add("a/b/c/d/e/f a/b/c/d/e/f/g")
	f.Add("b c d e a b")
	f.Fuzz(func(t *testing.T, s string) {
		if err := sameSet(strings.Split(s, " ")...); err != nil {
			t.Error(err)
		}
	})
}
