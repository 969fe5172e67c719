package slot_test

import (
	"fmt"
	"math"
	"slices"
	"strings"
	"testing"

	"wharfinger/api"
	"wharfinger/conf"
	"wharfinger/probe"
	"wharfinger/slot"
)

// The calls keep the document's signatures.
var (
	_ func() *slot.Slots                               = slot.New
	_ func(*slot.Slots, int, conf.Module) api.Errno    = (*slot.Slots).Enter
	_ func(*slot.Slots, int) api.Errno                 = (*slot.Slots).Leave
	_ func(*slot.Slots, string) int                    = (*slot.Slots).Count
	_ func(s *slot.Slots, who int) (m string, is bool) = (*slot.Slots).In
	_ func(*slot.Slots) int                            = (*slot.Slots).Len
)

// module: one with this name, and so many slots.
func module(name string, slots int) conf.Module { return conf.Module{Name: name, Slots: slots} }

// enter: somebody asks to be let in, and that is the answer.
func enter(t *testing.T, s *slot.Slots, who int, m conf.Module, want api.Errno) {
	t.Helper()
	if e := s.Enter(who, m); e != want {
		t.Errorf("%d enters %q, of %d slots: %d, not %d", who, m.Name, m.Slots, e, want)
	}
}

// leave: somebody leaves, and that is the answer.
func leave(t *testing.T, s *slot.Slots, who int, want api.Errno) {
	t.Helper()
	if e := s.Leave(who); e != want {
		t.Errorf("%d leaves: %d, not %d", who, e, want)
	}
}

// in: where somebody is.
func in(t *testing.T, s *slot.Slots, who int, want string, is bool) {
	t.Helper()
	if name, ok := s.In(who); name != want || ok != is {
		t.Errorf("%d is in %q, %v, not in %q, %v", who, name, ok, want, is)
	}
}

// counts: how many are in each of these modules, and in all.
func counts(t *testing.T, s *slot.Slots, all int, want map[string]int) {
	t.Helper()
	for name, n := range want {
		if got := s.Count(name); got != n {
			t.Errorf("%d are in %q, not %d", got, name, n)
		}
	}
	if s.Len() != all {
		t.Errorf("Len %d, not %d", s.Len(), all)
	}
}

// P15.1: nobody is anywhere.
func TestNew(t *testing.T) {
	s := slot.New()
	for _, who := range []int{0, 1, -1, math.MaxInt, math.MinInt} {
		in(t, s, who, "", false)
		leave(t, s, who, api.ErrMissing)
	}
	counts(t, s, 0, map[string]int{"": 0, "a": 0, "\xff": 0})
}

// P15.1: the document's example.
func TestExample(t *testing.T) {
	s := slot.New()
	enter(t, s, 1, module("a", 1), api.OK)
	enter(t, s, 2, module("a", 1), api.ErrLimit)
	leave(t, s, 1, api.OK)
	counts(t, s, 0, map[string]int{"a": 0})
	enter(t, s, 2, module("a", 1), api.OK)
}

// P15.1: as many as there are slots are let in, in each module by itself.
func TestSlots(t *testing.T) {
	for _, slots := range []int{1, 2, 3, 16, 100} {
		s := slot.New()
		for who := range slots {
			enter(t, s, who, module("a", slots), api.OK)
			enter(t, s, -1-who, module("b", slots), api.OK)
			counts(t, s, 2*who+2, map[string]int{"a": who + 1, "b": who + 1, "": 0, "ab": 0})
		}
		for range 2 {
			enter(t, s, slots, module("a", slots), api.ErrLimit)
			enter(t, s, slots, module("b", slots), api.ErrLimit)
			in(t, s, slots, "", false)
			leave(t, s, slots, api.ErrMissing)
		}
		leave(t, s, 0, api.OK)
		enter(t, s, slots, module("b", slots), api.ErrLimit)
		enter(t, s, slots, module("a", slots), api.OK)
		enter(t, s, 0, module("a", slots), api.ErrLimit)
		counts(t, s, 2*slots, map[string]int{"a": slots, "b": slots})
	}
}

// P15.1: nobody is let in where there is no slot.
func TestNoSlots(t *testing.T) {
	s := slot.New()
	for _, slots := range []int{0, -1, -16, math.MinInt} {
		enter(t, s, 1, module("a", slots), api.ErrLimit)
		enter(t, s, 1, module("", slots), api.ErrLimit)
	}
	enter(t, s, 1, module("a", math.MaxInt), api.OK)
	enter(t, s, 2, module("a", 0), api.ErrLimit)
	counts(t, s, 1, map[string]int{"a": 1})
}

// P15.1: how many slots there are is what the module says that is handed in, whatever was said before; and more may be in it.
func TestFewerSlots(t *testing.T) {
	s := slot.New()
	for who := range 4 {
		enter(t, s, who, module("a", 4), api.OK)
	}
	for slots := range 5 {
		enter(t, s, 9, module("a", slots), api.ErrLimit)
	}
	enter(t, s, 9, module("a", 5), api.OK)
	leave(t, s, 1, api.OK)
	leave(t, s, 2, api.OK)
	enter(t, s, 2, module("a", 3), api.ErrLimit)
	enter(t, s, 2, module("a", 4), api.OK)
	counts(t, s, 4, map[string]int{"a": 4})
}

// P15.1: who is somewhere isn't let in anywhere; that is told ahead of what else is wrong.
func TestTwice(t *testing.T) {
	s := slot.New()
	enter(t, s, 1, module("a", 1), api.OK)
	enter(t, s, 2, module("b", 2), api.OK)
	for _, m := range []conf.Module{module("a", 1), module("a", 2), module("a", 0), module("b", 2), module("b", 1), module("c", 1), module("", -1)} {
		enter(t, s, 1, m, api.ErrTwice)
		in(t, s, 1, "a", true)
		counts(t, s, 2, map[string]int{"a": 1, "b": 1, "c": 0, "": 0})
	}
	leave(t, s, 1, api.OK)
	in(t, s, 1, "", false)
	leave(t, s, 1, api.ErrMissing)
	enter(t, s, 1, module("b", 2), api.OK)
	in(t, s, 1, "b", true)
	counts(t, s, 2, map[string]int{"a": 0, "b": 2})
}

// P15.1: any number is somebody's, and any text a module's name, an empty one too.
func TestAnyNumberAnyName(t *testing.T) {
	s := slot.New()
	all := []int{0, -1, math.MinInt, math.MaxInt, 7}
	names := []string{"", "A", "a", "\xff\x00", strings.Repeat("a", 1000)}
	for i, who := range all {
		enter(t, s, who, module(names[i], 1), api.OK)
		enter(t, s, who, module(names[i], 1), api.ErrTwice)
	}
	for i, who := range all {
		in(t, s, who, names[i], true)
		enter(t, s, 8, module(names[i], 1), api.ErrLimit)
	}
	for i, who := range all {
		counts(t, s, len(all)-i, map[string]int{names[i]: 1, "aa": 0})
		leave(t, s, who, api.OK)
		counts(t, s, len(all)-i-1, map[string]int{names[i]: 0})
		in(t, s, who, "", false)
	}
}

// P15.1: of a module its name and its slots count alone.
func TestRestOfModule(t *testing.T) {
	s := slot.New()
	enter(t, s, 1, conf.Module{Name: "a", Root: "r", Slots: 2, Write: true, Quota: 5, Users: []conf.User{{Name: "u", Secret: "s"}}}, api.OK)
	enter(t, s, 2, conf.Module{Name: "a", Root: "other", Slots: 2}, api.OK)
	enter(t, s, 3, conf.Module{Name: "a", Slots: 2}, api.ErrLimit)
	enter(t, s, 3, conf.Module{Name: "r", Root: "r", Slots: 1}, api.OK)
	in(t, s, 3, "r", true)
}

// P2, rule 4: the module that is handed in isn't changed, and two tables share nothing.
func TestNothingIsShared(t *testing.T) {
	m := conf.Module{Name: "a", Slots: 1, Users: []conf.User{{Name: "u", Secret: "s"}}}
	s, other := slot.New(), slot.New()
	enter(t, s, 1, m, api.OK)
	enter(t, other, 2, m, api.OK)
	in(t, other, 1, "", false)
	in(t, s, 2, "", false)
	if m.Name != "a" || m.Slots != 1 || !slices.Equal(m.Users, []conf.User{{Name: "u", Secret: "s"}}) {
		t.Errorf("%v", m)
	}
}

// model is who is where as the document words it: a row of places in the order in which they came.
type model struct {
	who  []int
	name []string
}

// in: the place in the row of somebody; -1: they are nowhere.
func (m *model) in(who int) int { return slices.Index(m.who, who) }

func (m *model) count(name string) int {
	n := 0
	for _, other := range m.name {
		if other == name {
			n++
		}
	}
	return n
}

func (m *model) enter(who int, name string, slots int) api.Errno {
	if m.in(who) >= 0 {
		return api.ErrTwice
	}
	if m.count(name) >= slots {
		return api.ErrLimit
	}
	m.who, m.name = append(m.who, who), append(m.name, name)
	return api.OK
}

func (m *model) leave(who int) api.Errno {
	i := m.in(who)
	if i < 0 {
		return api.ErrMissing
	}
	m.who, m.name = slices.Delete(m.who, i, i+1), slices.Delete(m.name, i, i+1)
	return api.OK
}

// step does what a byte tells to both: who, where, and of how many slots; or who leaves.
func (m *model) step(s *slot.Slots, b byte) error {
	who, name, slots := int(b&3), []string{"a", "b", ""}[b>>2&3%3], int(b>>4&3)
	got, want := api.OK, api.OK
	if b>>6 == 3 {
		got, want = s.Leave(who), m.leave(who)
	} else {
		got, want = s.Enter(who, module(name, slots)), m.enter(who, name, slots)
	}
	if got != want {
		return fmt.Errorf("%08b: %d, not %d", b, got, want)
	}
	return m.same(s)
}

// same: does the table tell what the model does?
func (m *model) same(s *slot.Slots) error {
	for _, name := range []string{"a", "b", ""} {
		if s.Count(name) != m.count(name) {
			return fmt.Errorf("%q: %d, not %d", name, s.Count(name), m.count(name))
		}
	}
	for who := range 4 {
		want, i := "", m.in(who)
		if i >= 0 {
			want = m.name[i]
		}
		if name, ok := s.In(who); name != want || ok != (i >= 0) {
			return fmt.Errorf("%d: %q, %v, not %q", who, name, ok, want)
		}
	}
	if s.Len() != len(m.who) {
		return fmt.Errorf("Len %d, not %d", s.Len(), len(m.who))
	}
	return nil
}

// play does what bytes tell to a new table and to the model.
func play(script []byte) error {
	s, m := slot.New(), &model{}
	for i, b := range script {
		if err := m.step(s, b); err != nil {
			return fmt.Errorf("step %d: %w", i, err)
		}
	}
	return nil
}

// P15.1: every short row of steps.
func TestEveryShortRow(t *testing.T) {
	for row := range probe.Rows([]byte{0x10, 0x11, 0x22, 0x15, 0x24, 0x26, 0xc0, 0xc1, 0xc2}, 5) {
		if err := play(row); err != nil {
			t.Fatalf("%x: %v", row, err)
		}
	}
}

// P15.1: many scripts of no simple order.
func TestPlay(t *testing.T) {
	for n := range 300 {
		if err := play(probe.Bytes(n)); err != nil {
			t.Fatalf("script %d: %v", n, err)
		}
	}
}

// P1, P15.1: whatever is done to a table.
func FuzzPlay(f *testing.F) {
	f.Add([]byte{0x10, 0x11, 0xc0, 0x11})
	f.Add(probe.Bytes(100))
	f.Fuzz(func(t *testing.T, script []byte) {
		if err := play(script); err != nil {
			t.Error(err)
		}
	})
}

// P1, P15.1: any number, any name, any count of slots.
func FuzzAny(f *testing.F) {
	f.Add(1, "a", 1, 2, "a", 1)
	f.Add(math.MinInt, "", 0, math.MaxInt, "\xff", -1)
	f.Fuzz(func(t *testing.T, who int, name string, slots, next int, other string, left int) {
		s, m := slot.New(), &model{}
		for range 2 {
			enter(t, s, who, module(name, slots), m.enter(who, name, slots))
			enter(t, s, next, module(other, left), m.enter(next, other, left))
			counts(t, s, len(m.who), map[string]int{name: m.count(name), other: m.count(other)})
			leave(t, s, who, m.leave(who))
		}
	})
}
