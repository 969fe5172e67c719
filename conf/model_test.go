package conf_test

import (
	"fmt"
	"regexp"
	"slices"
	"strconv"
	"strings"
	"testing"

	"wharfinger/api"
	"wharfinger/conf"
	"wharfinger/probe"
)

// The shapes of the document's things, written otherwise than the program has them.
var (
	headShape   = regexp.MustCompile(`(?s)^\[(.*)\]$`)
	entryShape  = regexp.MustCompile(`(?s)^([^=]*)=(.*)$`)
	userShape   = regexp.MustCompile(`(?s)^([^:]*):(.+)$`)
	edges       = regexp.MustCompile(`^ +| +$`)
	nameShape   = regexp.MustCompile(`^[A-Za-z0-9]{1,16}$`)
	numberShape = regexp.MustCompile(`^(0|[1-9][0-9]{0,5})$`)
	rootShape   = regexp.MustCompile(`^[a-z0-9_.-]{1,16}(/[a-z0-9_.-]{1,16}){0,5}$`)
	dotsShape   = regexp.MustCompile(`(^|/)[.]{1,2}(/|$)`)
)

// model is what the lines so far said, as the document words it.
type model struct {
	modules []conf.Module
	keys    [][]string // of each module
}

// parseAs reads a text as the document words it: the modules, or the Fault; the zero Fault: there is none.
func parseAs(text string) (conf.Config, api.Fault) {
	if len(text) > 8192 {
		return conf.Config{}, api.Fault{At: 0, Err: api.ErrLong}
	}
	var m model
	for i, line := range strings.Split(text, "\n") {
		if e := m.hear(edges.ReplaceAllString(line, "")); e != api.OK {
			return conf.Config{}, api.Fault{At: i, Err: e}
		}
	}
	if fault := checkAs(m.modules); fault != (api.Fault{}) {
		return conf.Config{}, fault
	}
	return conf.Config{Modules: m.modules}, api.Fault{}
}

func (m *model) hear(line string) api.Errno {
	switch {
	case len(line) == 0 || line[0] == '#':
		return api.OK
	case line[0] == '[':
		return m.head(line)
	}
	return m.entry(line)
}

func (m *model) head(line string) api.Errno {
	found := headShape.FindStringSubmatch(line)
	switch {
	case found == nil:
		return api.ErrLine
	case !nameShape.MatchString(found[1]):
		return api.ErrName
	}
	for _, other := range m.modules {
		if other.Name == found[1] {
			return api.ErrTwice
		}
	}
	if len(m.modules) > 7 {
		return api.ErrFull
	}
	m.modules = append(m.modules, conf.Module{Name: found[1], Slots: 16, Quota: 262144})
	m.keys = append(m.keys, nil)
	return api.OK
}

func (m *model) entry(line string) api.Errno {
	found := entryShape.FindStringSubmatch(line)
	if found == nil || len(m.modules) == 0 {
		return api.ErrLine
	}
	last := &m.modules[len(m.modules)-1]
	keys := &m.keys[len(m.keys)-1]
	key, value := edges.ReplaceAllString(found[1], ""), edges.ReplaceAllString(found[2], "")
	if slices.Contains(*keys, key) && key != "user" {
		return api.ErrTwice
	}
	*keys = append(*keys, key)
	n, _ := strconv.Atoi(value)
	switch {
	case key == "root" && (len(value) > 64 || !rootShape.MatchString(value) || dotsShape.MatchString(value)):
		return api.ErrPath
	case key == "root":
		last.Root = value
	case key == "write" && slices.Contains([]string{"yes", "true", "no", "false"}, value):
		last.Write = value == "yes" || value == "true"
	case key == "slots" && numberShape.MatchString(value) && n > 0 && n <= 16:
		last.Slots = n
	case key == "quota" && numberShape.MatchString(value) && n <= 262144:
		last.Quota = n
	case key == "user":
		return addAs(last, value)
	default:
		return api.ErrLine
	}
	return api.OK
}

func addAs(m *conf.Module, value string) api.Errno {
	found := userShape.FindStringSubmatch(value)
	switch {
	case found == nil || len(found[2]) > 16:
		return api.ErrLine
	case !nameShape.MatchString(found[1]):
		return api.ErrName
	}
	for _, other := range m.Users {
		if other.Name == found[1] {
			return api.ErrTwice
		}
	}
	if len(m.Users) > 7 {
		return api.ErrFull
	}
	m.Users = append(m.Users, conf.User{Name: found[1], Secret: found[2]})
	return api.OK
}

// checkAs looks at modules as the document words it.
func checkAs(modules []conf.Module) api.Fault {
	for i, m := range modules {
		if len(m.Root) == 0 {
			return api.Fault{At: i, Err: api.ErrMissing}
		}
		for _, ahead := range modules[:i] {
			if strings.HasPrefix(ahead.Root+"/", m.Root+"/") || strings.HasPrefix(m.Root+"/", ahead.Root+"/") {
				return api.Fault{At: i, Err: api.ErrPath}
			}
		}
	}
	return api.Fault{}
}

// textAs writes modules as the document words it.
func textAs(c conf.Config) string {
	text := ""
	for _, m := range c.Modules {
		word := map[bool]string{true: "yes", false: "no"}[m.Write]
		text += fmt.Sprintf("[%s]\nroot = %s\nwrite = %s\nslots = %d\nquota = %d\n", m.Name, m.Root, word, m.Slots, m.Quota)
		for _, u := range m.Users {
			text += fmt.Sprintf("user = %s:%s\n", u.Name, u.Secret)
		}
	}
	return text
}

// sameModule: are two modules one, users that are nil and empty ones being the same?
func sameModule(m, n conf.Module) bool {
	return m.Name == n.Name && m.Root == n.Root && m.Write == n.Write && m.Slots == n.Slots && m.Quota == n.Quota && slices.Equal(m.Users, n.Users)
}

// same: are two configs one?
func same(c, d conf.Config) bool { return slices.EqualFunc(c.Modules, d.Modules, sameModule) }

// look: does Parse answer what the document asks, and do the others of what it answers?
func look(text string) error {
	want, fault := parseAs(text)
	c, err := conf.Parse(text)
	if got := probe.Fault(err); got != fault || !same(c, want) {
		return fmt.Errorf("Parse of %q: %v, %v, not %v, %v", text, c, err, want, fault.Error())
	}
	if err != nil {
		return nil
	}
	if err := c.Check(); err != nil {
		return fmt.Errorf("Check of what %q is: %v", text, err)
	}
	written := c.Text()
	if written != textAs(want) {
		return fmt.Errorf("Text of what %q is: %q, not %q", text, written, textAs(want))
	}
	if again, err := conf.Parse(written); err != nil || !same(again, want) {
		return fmt.Errorf("Parse of the Text %q: %v, %v, not %v", written, again, err, want)
	}
	return nil
}

// P13.1 to P13.4: every row of some lines, of each kind some.
func TestEveryRowOfLines(t *testing.T) {
	lines := []string{
		"[a]", "[b]", "[", "[-]", "root = r", "root=r/s", "  root  =  q  ", "root = R", "write=true", "write = no",
		"slots = 7", "slots = 0", "quota = 0", "quota = 262145", "user = u:x", "user = v:y:z", "user = u:", "what = 1", "# root = r", "",
	}
	var signs []byte
	for i := range lines {
		signs = append(signs, byte(i))
	}
	for row := range probe.Rows(signs, 4) {
		var text []string
		for _, i := range append([]byte{0}, row...) {
			text = append(text, lines[i])
		}
		if err := look(strings.Join(text, "\n")); err != nil {
			t.Fatal(err)
		}
		if err := look(strings.Join(text[1:], "\n")); err != nil {
			t.Fatal(err)
		}
	}
}

// P13.1, P13.2: every short text of signs that tell something, alone and behind a module's beginning.
func TestEveryShortText(t *testing.T) {
	for b := range probe.Rows([]byte("[]=# \na"), 6) {
		for _, front := range []string{"", "[m]\nroot = r\n"} {
			if err := look(front + string(b)); err != nil {
				t.Fatal(err)
			}
		}
	}
	for b := range probe.Rows([]byte("u:= \t-"), 6) {
		if err := look("[m]\nroot = r\nuser = u:x\nuser =" + string(b)); err != nil {
			t.Fatal(err)
		}
	}
	for b := range probe.Rows([]byte("0129 +"), 6) {
		for _, key := range []string{"slots", "quota"} {
			if err := look("[m]\nroot = r\n" + key + "=" + string(b)); err != nil {
				t.Fatal(err)
			}
		}
	}
}

// P1, P13.1 to P13.4: any text.
func FuzzText(f *testing.F) {
	f.Add("")
	f.Add("[home]\nroot = a/b\nuser = ann:secret")
	f.Add("# all\n[one]\nroot = r/one\nwrite = true\nslots = 3\nquota = 100\nuser = ann:a:b\n  user=Bob:x  \n\n[two]\nroot=r/two\nwrite = no")
	f.Add("[a]\nroot = r\n[b]\nroot = r/s")
	f.Add("[a]\nroot = r\n\xff = \x00")
	f.Add(strings.Repeat("#", 8193))
	f.Fuzz(func(t *testing.T, text string) {
		if err := look(text); err != nil {
			t.Error(err)
		}
		if err := look("[m]\nroot = r\n" + text); err != nil {
			t.Error(err)
		}
	})
}
