package conf_test

import (
	"fmt"
	"slices"
	"strings"
	"testing"

	"wharfinger/api"
	"wharfinger/conf"
	"wharfinger/probe"
)

// The calls keep the document's signatures, the limits their values.
var (
	_ func(string) (conf.Config, error)               = conf.Parse
	_ func(conf.Config) error                         = conf.Config.Check
	_ func(conf.Config) string                        = conf.Config.Text
	_ func(conf.Config, string) (conf.Module, bool)   = conf.Config.Find
	_ func(m conf.Module, name string) (string, bool) = conf.Module.Secret
	_ [8192]struct{}                                  = [conf.MaxText]struct{}{}
	_ [8]struct{}                                     = [conf.MaxModules]struct{}{}
	_ [8]struct{}                                     = [conf.MaxUsers]struct{}{}
	_ [16]struct{}                                    = [conf.MaxSlots]struct{}{}
	_ [262144]struct{}                                = [conf.MaxQuota]struct{}{}
	_ [16]struct{}                                    = [conf.MaxName]struct{}{}
)

// rooted: modules with these roots.
func rooted(roots ...string) conf.Config {
	var c conf.Config
	for i, root := range roots {
		c.Modules = append(c.Modules, conf.Module{Name: fmt.Sprint("m", i), Root: root})
	}
	return c
}

// spoilUsers changes all users, and the spare room behind them.
func spoilUsers(users []conf.User) {
	for i := range users[:cap(users)] {
		users[:cap(users)][i] = conf.User{Name: "spoiled", Secret: "spoiled"}
	}
}

// clone: the same modules, in memory of their own.
func clone(c conf.Config) conf.Config {
	c.Modules = slices.Clone(c.Modules)
	for i := range c.Modules {
		c.Modules[i].Users = slices.Clone(c.Modules[i].Users)
	}
	return c
}

// P13.3: modules that can be, and ones that can't; whatever their roots are.
func TestCheck(t *testing.T) {
	for _, c := range []struct {
		roots []string
		want  api.Fault
	}{
		{nil, api.Fault{}},
		{[]string{"a"}, api.Fault{}},
		{[]string{"a", "b", "c/d", "c/e"}, api.Fault{}},
		{[]string{"a", "ab", "a.b", "a-/x"}, api.Fault{}},
		{[]string{"a/b", "b", "c/a"}, api.Fault{}},
		{[]string{"A", "a b", "\xff", "//x"}, api.Fault{}},
		{[]string{""}, api.Fault{At: 0, Err: api.ErrMissing}},
		{[]string{"", "", "a", "a"}, api.Fault{At: 0, Err: api.ErrMissing}},
		{[]string{"a", ""}, api.Fault{At: 1, Err: api.ErrMissing}},
		{[]string{"a", "b", "", "a"}, api.Fault{At: 2, Err: api.ErrMissing}},
		{[]string{"a", "a"}, api.Fault{At: 1, Err: api.ErrPath}},
		{[]string{"a", "b", "a", ""}, api.Fault{At: 2, Err: api.ErrPath}},
		{[]string{"a", "a/b"}, api.Fault{At: 1, Err: api.ErrPath}},
		{[]string{"a/b", "a"}, api.Fault{At: 1, Err: api.ErrPath}},
		{[]string{"a/b", "c", "a/b/c/d"}, api.Fault{At: 2, Err: api.ErrPath}},
		{[]string{"c", "a/b/c/d", "d", "a/b"}, api.Fault{At: 3, Err: api.ErrPath}},
		{[]string{"a", "a/"}, api.Fault{At: 1, Err: api.ErrPath}},
		{[]string{"/", "//"}, api.Fault{At: 1, Err: api.ErrPath}},
		{[]string{"\xff", "b", "\xff"}, api.Fault{At: 2, Err: api.ErrPath}},
		{[]string{"a", "b", "c", "d", "e", "f", "g", "h", "i", "e/x"}, api.Fault{At: 9, Err: api.ErrPath}},
	} {
		if got := probe.Fault(rooted(c.roots...).Check()); got != c.want {
			t.Errorf("%q: %v, not %v", c.roots, got.Error(), c.want.Error())
		}
		if c.want != (api.Fault{}) && !probe.NewFaults(func() error { return rooted(c.roots...).Check() }) {
			t.Errorf("%q: a Fault is kept", c.roots)
		}
	}
}

// P13.3: any three short roots.
func TestCheckEveryShortRoot(t *testing.T) {
	var roots []string
	for b := range probe.Rows([]byte("a/"), 4) {
		roots = append(roots, string(b))
	}
	for _, x := range roots {
		for _, y := range roots {
			for _, z := range roots {
				c := rooted(x, y, z)
				if got := probe.Fault(c.Check()); got != checkAs(c.Modules) {
					t.Fatalf("%q: %v", []string{x, y, z}, got.Error())
				}
			}
		}
	}
}

// P13.3: what else modules are doesn't count.
func TestCheckRootsAlone(t *testing.T) {
	c := conf.Config{Modules: []conf.Module{{Root: "a", Slots: -1, Quota: -1, Users: make([]conf.User, 20)}, {Root: "b"}, {Name: "-", Root: "C"}}}
	if err := c.Check(); err != nil {
		t.Error(err)
	}
}

// P13.3: the first module of a name, whatever the name is.
func TestFind(t *testing.T) {
	ann := []conf.User{{Name: "ann", Secret: "x"}}
	c := conf.Config{Modules: []conf.Module{
		{Name: "one", Root: "r/one", Write: true, Slots: 3, Quota: 4, Users: ann},
		{Name: "two", Root: "r/two"},
		{Name: "one", Root: "r/three"},
		{Name: "", Root: "r/four"},
		{Name: "\xff", Root: "r/five"},
	}}
	for name, want := range map[string]int{"one": 0, "two": 1, "": 3, "\xff": 4} {
		if m, ok := c.Find(name); !ok || !sameModule(m, c.Modules[want]) {
			t.Errorf("%q: %v, %v", name, m, ok)
		}
	}
	for _, name := range []string{"One", "on", "ones", "three", "r/one", "ann", " one", "\xfe", strings.Repeat("one", 1000)} {
		if m, ok := c.Find(name); ok || !sameModule(m, conf.Module{}) {
			t.Errorf("%q: %v, %v", name, m, ok)
		}
	}
	for _, name := range []string{"", "one"} {
		if m, ok := (conf.Config{}).Find(name); ok || !sameModule(m, conf.Module{}) {
			t.Errorf("of none, %q: %v, %v", name, m, ok)
		}
	}
}

// P2, rule 4: a module that was found shares no memory with the others, nor with one that is found again.
func TestFoundIsNew(t *testing.T) {
	room := []conf.User{{Name: "ann", Secret: "x"}, {Name: "bob", Secret: "y"}, {Name: "spare"}, {Name: "room"}}
	c := conf.Config{Modules: []conf.Module{{Name: "a", Root: "r", Users: room[:2]}, {Name: "b", Root: "s", Users: room[:0]}}}
	want := clone(c)
	for _, name := range []string{"a", "b"} {
		first, _ := c.Find(name)
		second, _ := c.Find(name)
		spoilUsers(first.Users)
		spoilUsers(append(first.Users, conf.User{}))
		third, _ := c.Find(name)
		i := slices.IndexFunc(want.Modules, func(m conf.Module) bool { return m.Name == name })
		if !sameModule(second, want.Modules[i]) || !sameModule(third, want.Modules[i]) || !same(c, want) {
			t.Errorf("%q: %v, %v, %v", name, second, third, c)
		}
	}
	if room[0].Name != "ann" || room[2].Name != "spare" || room[3].Name != "room" {
		t.Errorf("%v", room)
	}
}

// P13.3: the secret of the first user of a name, whatever the name is.
func TestSecret(t *testing.T) {
	m := conf.Module{Name: "home", Users: []conf.User{
		{Name: "ann", Secret: "x"}, {Name: "bob", Secret: "y:z"}, {Name: "ann", Secret: "w"}, {Name: "eve"}, {Name: "", Secret: "v"}, {Name: "\xff", Secret: "\xfe"},
	}}
	for name, want := range map[string]string{"ann": "x", "bob": "y:z", "eve": "", "": "v", "\xff": "\xfe"} {
		if secret, ok := m.Secret(name); secret != want || !ok {
			t.Errorf("%q: %q, %v", name, secret, ok)
		}
	}
	for _, name := range []string{"Ann", "an", "anna", "home", "x", " ann", "\xfe"} {
		if secret, ok := m.Secret(name); secret != "" || ok {
			t.Errorf("%q: %q, %v", name, secret, ok)
		}
	}
	if secret, ok := (conf.Module{}).Secret(""); secret != "" || ok {
		t.Errorf("of nobody: %q, %v", secret, ok)
	}
}

// P13.4: modules as a text.
func TestText(t *testing.T) {
	c := parse(t, "[two]\nuser = u:a:b\nroot=r/two\nuser =V:  x\nslots = 1\n# no\n[One]\nquota=0\nwrite = true\nroot = r/one")
	const want = "[two]\nroot = r/two\nwrite = no\nslots = 1\nquota = 262144\nuser = u:a:b\nuser = V:  x\n" +
		"[One]\nroot = r/one\nwrite = yes\nslots = 16\nquota = 0\n"
	if got := c.Text(); got != want {
		t.Errorf("%q, not %q", got, want)
	}
	if got := parse(t, "# none\n").Text(); got != "" {
		t.Errorf("of none: %q", got)
	}
}

// P13.4: the longest text is read again.
func TestLongestText(t *testing.T) {
	var c conf.Config
	for i := range 8 {
		front := fmt.Sprint(i, "bcdefghijklmnop")
		m := conf.Module{Name: front, Root: front + strings.Repeat("/abcdefghijklmnop", 2) + "/abcdefghijklm", Slots: 16, Quota: 262144}
		for j := range 8 {
			m.Users = append(m.Users, conf.User{Name: fmt.Sprint(j, "BCDEFGHIJKLMNOP"), Secret: fmt.Sprint(" ", i, j, "# =:[]\xff\x00\r\t..")})
		}
		c.Modules = append(c.Modules, m)
	}
	text := c.Text()
	if text != textAs(c) {
		t.Errorf("%q", text)
	}
	if got := parse(t, text); !same(got, c) {
		t.Errorf("%v", got)
	}
}

// P2: nothing that is handed in is changed, its spare room neither.
func TestArgumentsStay(t *testing.T) {
	room := []conf.Module{{Name: "a", Root: "r", Users: []conf.User{{Name: "u", Secret: "x"}}}, {Name: "b", Root: "r"}, {Name: "spare"}}
	c := conf.Config{Modules: room[:2]}
	want := clone(conf.Config{Modules: room})
	c.Check()
	c.Text()
	c.Find("b")
	c.Modules[0].Secret("u")
	if !same(conf.Config{Modules: room}, want) {
		t.Errorf("%v", room)
	}
}

// P1: modules of any shape are taken.
func TestAnyModules(t *testing.T) {
	many := make([]string, 2000)
	for i := range many {
		many[i] = fmt.Sprint("r", i)
	}
	for _, c := range []conf.Config{
		{},
		{Modules: make([]conf.Module, 30)},
		{Modules: []conf.Module{{Name: "\n]", Root: "\n", Slots: -1 << 63, Quota: 1<<63 - 1, Users: []conf.User{{}, {Name: ":", Secret: "\n"}}}}},
		rooted(many...),
		rooted(strings.Repeat("r/", 1<<20), strings.Repeat("r/", 1<<19)),
	} {
		fault := checkAs(c.Modules)
		if got := probe.Fault(c.Check()); got != fault {
			t.Errorf("%v, not %v", got.Error(), fault.Error())
		}
		c.Text()
		c.Find("m")
		for _, m := range c.Modules {
			m.Secret("")
		}
	}
}
