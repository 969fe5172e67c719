package tree_test

import (
	"math"
	"slices"
	"testing"

	"wharfinger/api"
	"wharfinger/tree"
)

// P10.4: how many states are forgotten, and how many are left.
func TestForget(t *testing.T) {
	a := func(data string) []tree.Change { return []tree.Change{put("a", data)} }
	for _, c := range []struct {
		name        string
		commits     [][]tree.Change
		keep        []int
		count, left int
	}{
		{"only the last one is needed", [][]tree.Change{a("1"), a("2"), a("3")}, nil, 2, 1},
		{"the last one, named", [][]tree.Change{a("1"), a("2"), a("3")}, []int{3}, 2, 1},
		{"one is named", [][]tree.Change{a("1"), a("2"), a("3")}, []int{1}, 1, 2},
		{"all are named, in no order, some twice", [][]tree.Change{a("1"), a("2"), a("3")}, []int{3, 1, 2, 1}, 0, 3},
		{"the version 0 needs nothing", [][]tree.Change{a("1"), a("2")}, []int{0}, 1, 1},
		{"versions that there aren't", [][]tree.Change{a("1"), a("2")}, []int{-1, 3, math.MaxInt, math.MinInt}, 1, 1},
		{"a state is at later versions, too", [][]tree.Change{a("1"), nil, nil, a("2")}, []int{3}, 0, 2},
		{"but not at the next one's", [][]tree.Change{a("1"), nil, nil, a("2")}, []int{4}, 1, 1},
		{"one that stays", [][]tree.Change{a("1"), nil, nil}, nil, 0, 1},
		{"one that is gone", [][]tree.Change{a("1"), {gone("a")}}, nil, 2, 0},
		{"one that is gone, and was there", [][]tree.Change{a("1"), {gone("a")}}, []int{1}, 0, 2},
		{"gone, and there again", [][]tree.Change{a("1"), {gone("a")}, a("2")}, []int{2}, 2, 1},
		{"gone between two that are needed", [][]tree.Change{a("1"), {gone("a")}, a("2")}, []int{1, 2}, 0, 3},
		{"gone between, and not needed", [][]tree.Change{a("1"), {gone("a")}, a("2")}, []int{1}, 1, 2},
		{"gone twice, and nothing between", [][]tree.Change{a("1"), {gone("a")}, a("2"), {gone("a")}}, []int{2}, 4, 0},
		{"gone twice, with one ahead", [][]tree.Change{a("1"), {gone("a")}, a("2"), {gone("a")}}, []int{1, 2}, 1, 3},
		{"path by path", [][]tree.Change{{put("a", "1"), put("b", "1")}, {put("a", "2")}, {gone("b"), put("c", "")}}, []int{1}, 0, 5},
		{"path by path, but one", [][]tree.Change{{put("a", "1"), put("b", "1")}, {put("a", "2")}, {gone("b"), put("c", "")}}, []int{2}, 1, 4},
		{"path by path, all that can go", [][]tree.Change{{put("a", "1"), put("b", "1")}, {put("a", "2")}, {gone("b"), put("c", "")}}, nil, 3, 2},
	} {
		x := grown(t, c.commits...)
		keep := slices.Clone(c.keep)
		if n := x.Forget(keep...); n != c.count || x.States() != c.left || x.Now() != len(c.commits) {
			t.Errorf("%s: %d, States %d, Now %d", c.name, n, x.States(), x.Now())
		}
		if !slices.Equal(keep, c.keep) {
			t.Errorf("%s: the versions became %v", c.name, keep)
		}
		if n := x.Forget(c.keep...); n != 0 || x.States() != c.left {
			t.Errorf("%s: %d are forgotten once more", c.name, n)
		}
	}
}

// P10.4: what is named, the last one, and what comes later are told right.
func TestForgetKeeps(t *testing.T) {
	x, y := some(t), some(t)
	x.Forget(1)
	for _, z := range []*tree.Tree{x, y} {
		if version, err := z.Commit(put("r/b", "later"), put("new", "x")); version != 5 || err != nil {
			t.Fatal(version, err)
		}
	}
	for _, version := range []int{1, 4, 5} {
		list, _ := x.List(version, "")
		if want, _ := y.List(version, ""); !slices.Equal(list, want) || x.Bytes(version, "r") != y.Bytes(version, "r") {
			t.Errorf("%d: %q, not %q", version, list, want)
		}
		for _, p := range list {
			b, e := x.Read(version, p)
			if want, _ := y.Read(version, p); string(b) != string(want) || e != api.OK {
				t.Errorf("%d, %q: %q, %d", version, p, b, e)
			}
		}
	}
}

// P10.4: other versions are told by the states that are left.
func TestForgotten(t *testing.T) {
	x := grown(t, []tree.Change{put("a", "1")}, []tree.Change{put("a", "2")}, []tree.Change{gone("a")}, []tree.Change{put("a", "4")})
	x.Forget(1)
	for version, want := range []string{"", "1", "1", "1", "4"} {
		e := api.OK
		if version == 0 {
			e = api.ErrMissing
		}
		if b, got := x.Read(version, "a"); string(b) != want || got != e || x.Bytes(version, "") != len(want) {
			t.Errorf("%d: %q, %d", version, b, got)
		}
	}
	x.Forget()
	if _, e := x.Read(1, "a"); e != api.ErrMissing {
		t.Errorf("1, forgotten: %d", e)
	}
	if list, e := x.List(3, ""); len(list) > 0 || e != api.OK {
		t.Errorf("3, forgotten: %q, %d", list, e)
	}
}

// P10.3, P10.4: whose states are forgotten is missing at the last version, and can be put again.
func TestForgottenAndPutAgain(t *testing.T) {
	x := grown(t, []tree.Change{put("a", "1")}, []tree.Change{gone("a")})
	x.Forget()
	if _, err := x.Commit(gone("a")); err == nil {
		t.Error("taken out once more")
	}
	if version, err := x.Commit(put("a/b", "x")); version != 3 || err != nil || x.States() != 1 {
		t.Errorf("%d, %v, States %d", version, err, x.States())
	}
}
