package conf_test

import (
	"fmt"
	"strings"
	"testing"

	"wharfinger/api"
	"wharfinger/conf"
	"wharfinger/probe"
)

// parse: the modules of a text that can be.
func parse(t *testing.T, text string) conf.Config {
	t.Helper()
	c, err := conf.Parse(text)
	if err != nil {
		t.Fatalf("%q: %v", text, err)
	}
	return c
}

// last: the last module of a text that can be.
func last(t *testing.T, text string) conf.Module {
	t.Helper()
	c := parse(t, text)
	if len(c.Modules) == 0 {
		t.Fatalf("%q: no module", text)
	}
	return c.Modules[len(c.Modules)-1]
}

// wrong: a text has this error, at this place, and nothing is answered beside it.
func wrong(t *testing.T, text string, at int, e api.Errno) {
	t.Helper()
	c, err := conf.Parse(text)
	if probe.Fault(err) != (api.Fault{At: at, Err: e}) || c.Modules != nil {
		t.Errorf("%.200q: %v, %v, not %d at %d", text, c, err, e, at)
	}
}

// lines: some lines, the i-th of which is what f says of i.
func lines(n int, f func(i int) string) string {
	text := ""
	for i := range n {
		text += f(i) + "\n"
	}
	return text
}

// P13.1: the document's example.
func TestExample(t *testing.T) {
	c := parse(t, "[home]\nroot = a/b\nuser = ann:secret")
	want := conf.Module{Name: "home", Root: "a/b", Slots: 16, Quota: 262144, Users: []conf.User{{Name: "ann", Secret: "secret"}}}
	if len(c.Modules) != 1 || !sameModule(c.Modules[0], want) {
		t.Errorf("%v", c)
	}
}

// P13.1: texts that say nothing.
func TestNothingSaid(t *testing.T) {
	for _, text := range []string{"", " ", "\n", "\n\n\n", "   \n  ", "#", "# a", "  # [a", "#\n#\n #x = y", "#[a]", "##", "#=\x00\xff"} {
		if c := parse(t, text); len(c.Modules) != 0 {
			t.Errorf("%q: %v", text, c)
		}
	}
}

// P13.1: blanks ahead of and behind lines, keys and values don't count.
func TestBlanks(t *testing.T) {
	want := conf.Module{Name: "a", Root: "r", Write: true, Slots: 2, Quota: 3, Users: []conf.User{{Name: "u", Secret: "x"}}}
	for _, text := range []string{
		"[a]\nroot=r\nwrite=yes\nslots=2\nquota=3\nuser=u:x",
		"[a]\nroot = r\nwrite = yes\nslots = 2\nquota = 3\nuser = u:x\n",
		"  [a]  \n   root   =   r   \n write= yes \nslots =2\n\n\n  quota=   3\n  \n # no\nuser  =u:x   \n\n",
	} {
		if m := last(t, text); !sameModule(m, want) {
			t.Errorf("%q: %v", text, m)
		}
	}
}

// P13.1: other white space than blanks does count.
func TestNoBlanks(t *testing.T) {
	for _, space := range []string{"\t", "\r", "\v", "\f", "\x00", "\u0085", "\u00a0", "\u2003"} {
		wrong(t, space, 0, api.ErrLine)
		wrong(t, space+"# a", 0, api.ErrLine)
		wrong(t, space+"[a]", 0, api.ErrLine)
		wrong(t, "[a]"+space, 0, api.ErrLine)
		wrong(t, "["+space+"a]", 0, api.ErrName)
		wrong(t, "[a]\nroot"+space+"=r", 1, api.ErrLine)
		wrong(t, "[a]\nroot="+space+"r", 1, api.ErrPath)
		wrong(t, "[a]\nroot=r"+space, 1, api.ErrPath)
		wrong(t, "[a]\nwrite=yes"+space, 1, api.ErrLine)
		wrong(t, "[a]\nslots="+space+"1", 1, api.ErrLine)
		wrong(t, "[a]\nquota=1"+space, 1, api.ErrLine)
		wrong(t, "[a]\nuser="+space+"u:x", 1, api.ErrName)
		if m := last(t, "[a]\nroot = r\nuser=u:x"+space); m.Users[0].Secret != "x"+space {
			t.Errorf("%q: %v", space, m)
		}
	}
}

// P13.1: the first = parts a key from its value, the first : a name from a secret; what else stands there is of the value.
func TestFirstSigns(t *testing.T) {
	for line, secret := range map[string]string{
		"user = u:a=b":              "a=b",
		"user = u:=":                "=",
		"user = u:a:b":              "a:b",
		"user = u::":                ":",
		"user = u: x":               " x",
		"user = u:x y":              "x y",
		"user = u:  #  ":            "  #",
		"user = u:[a]":              "[a]",
		"user = u:# no":             "# no",
		"user = u:\u00e4\xff\x00":   "\u00e4\xff\x00",
		"user = u:0123456789abcdef": "0123456789abcdef",
	} {
		m := last(t, "[a]\nroot = r\n"+line)
		if len(m.Users) != 1 || m.Users[0] != (conf.User{Name: "u", Secret: secret}) {
			t.Errorf("%q: %v", line, m)
		}
	}
	wrong(t, "[a]\nroot == r", 1, api.ErrPath)
	wrong(t, "[a]\nwrite = = yes", 1, api.ErrLine)
}

// P13.1: which bytes stand in a name of a module, and of a user.
func TestEveryByteOfNames(t *testing.T) {
	for x := range 256 {
		sign := string([]byte{byte(x)})
		if sign == "\n" || sign == ":" {
			continue
		}
		good := strings.Contains("abcdefghijklmnopqrstuvwxyzABCDEFGHIJKLMNOPQRSTUVWXYZ0123456789", sign)
		for _, name := range []string{sign, sign + "a", "a" + sign, "a" + sign + "Z"} {
			module := "[" + name + "]\nroot = r"
			user := "[m]\nroot = r\nuser=" + name + ":x"
			if good {
				if m := last(t, module); m.Name != name {
					t.Errorf("%q: %v", module, m)
				}
				if m := last(t, user); m.Users[0].Name != name {
					t.Errorf("%q: %v", user, m)
				}
				continue
			}
			wrong(t, module, 0, api.ErrName)
			if name[0] != ' ' { // that is a blank ahead of the value
				wrong(t, user, 2, api.ErrName)
			}
		}
	}
}

// P13.1: how long a name is.
func TestNameLengths(t *testing.T) {
	for n := range 40 {
		name := strings.Repeat("n", n)
		if n > 0 && n <= 16 {
			last(t, "["+name+"]\nroot = r")
			last(t, "[a]\nroot = r\nuser = "+name+":x")
			continue
		}
		wrong(t, "["+name+"]", 0, api.ErrName)
		wrong(t, "[a]\nuser = "+name+":x", 1, api.ErrName)
	}
	for _, name := range []string{"\u00e4", "a\u0663", "\uff21", "\U0001d7d8", "\u212a", "\xc3", strings.Repeat("\u00e4", 8)} {
		wrong(t, "["+name+"]", 0, api.ErrName)
		wrong(t, "[a]\nuser = "+name+":x", 1, api.ErrName)
	}
}

// P13.2: as long as a text can be, and longer; nothing else is looked at then.
func TestTextLengths(t *testing.T) {
	front := "[a]\nroot = r\n"
	for _, n := range []int{8000, 8191, 8192} {
		last(t, front+strings.Repeat("#", n-len(front)))
		last(t, front+strings.Repeat("\n", n-len(front)))
		wrong(t, "x"+strings.Repeat("\n", n-1), 0, api.ErrLine)
		wrong(t, strings.Repeat("\n", n-1)+"x", n-1, api.ErrLine)
	}
	for _, n := range []int{8193, 8194, 9000, 1 << 20} {
		wrong(t, front+strings.Repeat("#", n-len(front)), 0, api.ErrLong)
		wrong(t, strings.Repeat(" ", n), 0, api.ErrLong)
		wrong(t, "\n[["+strings.Repeat("\n", n-3), 0, api.ErrLong)
	}
	wrong(t, strings.Repeat("\u00e4", 4097), 0, api.ErrLong)
	wrong(t, "#"+strings.Repeat("\u00e4", 4096), 0, api.ErrLong)
}

// P13.2: what isn't said.
func TestWhatIsNotSaid(t *testing.T) {
	want := conf.Module{Name: "b", Root: "q", Slots: 16, Quota: 262144}
	if m := last(t, "[a]\nroot=r\nwrite=yes\nslots=1\nquota=1\nuser=u:x\n[b]\nroot=q"); !sameModule(m, want) {
		t.Errorf("%v", m)
	}
}

// P13.2: the beginning of a module.
func TestWrongHeads(t *testing.T) {
	for text, e := range map[string]api.Errno{
		"[":           api.ErrLine,
		"[a":          api.ErrLine,
		"[a] x":       api.ErrLine,
		"[a]]x":       api.ErrLine,
		"[a] # no":    api.ErrLine,
		"[a] = b":     api.ErrLine,
		"[-":          api.ErrLine,
		"[[":          api.ErrLine,
		"[]":          api.ErrName,
		"[ ]":         api.ErrName,
		"[ a]":        api.ErrName,
		"[a ]":        api.ErrName,
		"[a]]":        api.ErrName,
		"[[a]":        api.ErrName,
		"[[]":         api.ErrName,
		"[a b]":       api.ErrName,
		"[a = b]":     api.ErrName,
		"[root = b]":  api.ErrName,
		"[a-b]":       api.ErrName,
		"[a] [b]":     api.ErrName,
		"[a]\t[b]":    api.ErrName,
		"[#]":         api.ErrName,
		"[\xff]":      api.ErrName,
		"[a\u00e4]":   api.ErrName,
		"[home.old]":  api.ErrName,
		"[home_old]":  api.ErrName,
		"[home/old]":  api.ErrName,
		"[home:old]":  api.ErrName,
		"[\x00]":      api.ErrName,
		"[a\r]":       api.ErrName,
		"] = b":       api.ErrLine,
		"a]":          api.ErrLine,
		"x[a]":        api.ErrLine,
		"=[a]":        api.ErrLine,
		"root = r[a]": api.ErrLine,
	} {
		wrong(t, text, 0, e)
		wrong(t, "\n  # no\n  "+text+"  \n[", 2, e)
	}
}

// P13.2: a name of which there is a module, whatever stands between.
func TestHeadTwice(t *testing.T) {
	wrong(t, "[a]\n[a]", 1, api.ErrTwice)
	wrong(t, "[a]\nroot = r\n[b]\nroot = s\n\n [a] ", 5, api.ErrTwice)
	wrong(t, "[a]\nroot = r\n[b]\nroot = s\n[b]", 4, api.ErrTwice)
	parse(t, "[a]\nroot = r\n[A]\nroot = s\n[aa]\nroot = t")
}

// P13.2: as many modules as can be, and one too many.
func TestMostModules(t *testing.T) {
	text := lines(8, func(i int) string { return fmt.Sprintf("[m%d]\nroot = r%d", i, i) })
	if c := parse(t, text); len(c.Modules) != 8 || c.Modules[7].Name != "m7" || c.Modules[7].Root != "r7" {
		t.Errorf("%v", c)
	}
	wrong(t, text+"[m8]", 16, api.ErrFull)
	wrong(t, text+"[m8]\nroot = r8", 16, api.ErrFull)
	wrong(t, text+"[m3]", 16, api.ErrTwice)
	wrong(t, text+"[-]", 16, api.ErrName)
	wrong(t, text+"[m8", 16, api.ErrLine)
	if c := parse(t, text+"user = u:x"); len(c.Modules[7].Users) != 1 {
		t.Errorf("%v", c)
	}
}

// P13.2: lines that are no key with a value, or no module's.
func TestNoEntries(t *testing.T) {
	for _, line := range []string{"x", "root", "root r", "root: r", "user u:x", "yes", ":", "]", "\xff", "\x00", ";", "a # b"} {
		wrong(t, line, 0, api.ErrLine)
		wrong(t, "[a]\nroot = r\n"+line, 2, api.ErrLine)
	}
	for _, line := range []string{"root = r", "write = yes", "slots = 1", "quota = 1", "user = u:x", "=", "root = //", "user = -:x", "what = 1"} {
		wrong(t, line, 0, api.ErrLine)
		wrong(t, "\n#\n"+line+"\n[a]\nroot = r", 2, api.ErrLine)
	}
}

// P13.2: keys that there aren't.
func TestNoKeys(t *testing.T) {
	for _, key := range []string{"", "what", "Root", "ROOT", "roots", "roo", "users", "User", "slot", "quotas", "name", "secret", "write:", "root user", "ro ot", "'root'", "\xff", "root\x00"} {
		for _, value := range []string{"", "1", "r", "yes", "u:x"} {
			wrong(t, "[a]\nroot = r\n"+key+" = "+value, 2, api.ErrLine)
			wrong(t, "[a]\n"+key+"="+value+"\n"+key+"="+value, 1, api.ErrLine)
		}
	}
}

// P13.2: a key stands there twice, whatever its values are; but in another module it may, and user may.
func TestKeysTwice(t *testing.T) {
	for key, values := range map[string][]string{
		"root":  {"r", "r", "s", "//", ""},
		"write": {"yes", "yes", "no", "what", ""},
		"slots": {"1", "1", "2", "0", ""},
		"quota": {"1", "1", "2", "-1", ""},
	} {
		for _, value := range values {
			wrong(t, "[a]\n"+key+" = "+values[0]+"\n"+key+" = "+value, 2, api.ErrTwice)
			wrong(t, "[a]\n"+key+" = "+values[0]+"\nuser = u:x\n\n  "+key+"="+value, 4, api.ErrTwice)
		}
		if key != "root" {
			parse(t, "[a]\nroot = r\n"+key+"="+values[0]+"\n[b]\nroot = s\n"+key+"="+values[0])
		}
	}
	if m := last(t, "[a]\nroot = r\nuser = u:x\nuser = v:x\nuser = w:x"); len(m.Users) != 3 {
		t.Errorf("%v", m)
	}
	wrong(t, "[a]\nroot = r\n[b]\nroot = s\nroot = t", 4, api.ErrTwice)
}

// P13.2: roots that are paths, and ones that aren't: the place is the line, not that in the path.
func TestRoots(t *testing.T) {
	for _, root := range []string{"r", "a/b/c/d/e/f", "a.b/_-", "...", "0123456789abcdef", "no", "1"} {
		if m := last(t, "[a]\nroot = "+root); m.Root != root {
			t.Errorf("%q: %v", root, m)
		}
	}
	long := strings.Repeat("abcdefghijklmno/", 4)
	for _, root := range []string{"", "/", "r/", "/r", "a//b", "A", "a b", ".", "..", "a/..", "a/b/c/d/e/f/g", "0123456789abcdefg", "a:b", "a=b", "a#b", "\xff", long + "a"} {
		wrong(t, "[a]\n\nroot = "+root, 2, api.ErrPath)
		if !probe.NewFaults(func() error { _, err := conf.Parse("[a]\nroot = " + root); return err }) {
			t.Errorf("%q: a Fault is kept", root)
		}
	}
}

// P13.2: the values of write.
func TestWrite(t *testing.T) {
	for value, want := range map[string]bool{"yes": true, "true": true, "no": false, "false": false} {
		if m := last(t, "[a]\nroot = r\nwrite = "+value); m.Write != want {
			t.Errorf("%q: %v", value, m.Write)
		}
	}
	for _, value := range []string{"", "Yes", "YES", "No", "NO", "y", "n", "t", "f", "1", "0", "True", "TRUE", "False", "FALSE", "on", "off", "yes no", "yestrue", "noo", "'yes'", "no # no"} {
		wrong(t, "[a]\nroot = r\nwrite = "+value, 2, api.ErrLine)
	}
}

// P13.2: the values of slots and quota.
func TestNumbers(t *testing.T) {
	for n := -20; n < 200; n++ {
		text := fmt.Sprintf("[a]\nroot = r\nslots = %d", n)
		if n >= 1 && n <= 16 {
			if m := last(t, text); m.Slots != n || m.Quota != 262144 {
				t.Errorf("%d: %v", n, m)
			}
		} else {
			wrong(t, text, 2, api.ErrLine)
		}
	}
	for _, n := range []int{0, 1, 9, 10, 17, 100, 99999, 100000, 199999, 262143, 262144} {
		if m := last(t, fmt.Sprintf("[a]\nroot = r\nquota = %d", n)); m.Quota != n || m.Slots != 16 {
			t.Errorf("%d: %v", n, m)
		}
	}
	for _, value := range []string{"-1", "262145", "300000", "999999", "1000000", "4294967296", "9223372036854775807", "18446744073709551616", "18446744073709551617", strings.Repeat("1", 1000)} {
		wrong(t, "[a]\nroot = r\nquota = "+value, 2, api.ErrLine)
	}
	for _, value := range []string{"", "00", "01", "03", "007", "+1", "-0", "+0", "0x1", "1.", "1.0", "1e0", "1_0", "_1", "1 2", "1,0", "one", "a", "\u0663", "\uff11", "1\x00", "\xff", "'1'", "=1", "1 # one"} {
		wrong(t, "[a]\nroot = r\nslots = "+value, 2, api.ErrLine)
		wrong(t, "[a]\nroot = r\nquota = "+value, 2, api.ErrLine)
	}
}

// P13.2: users that can't be, and which error is told where several apply.
func TestWrongUsers(t *testing.T) {
	for value, e := range map[string]api.Errno{
		"":                    api.ErrLine,
		"u":                   api.ErrLine,
		"u x":                 api.ErrLine,
		"u:":                  api.ErrLine,
		"u:  ":                api.ErrLine,
		":":                   api.ErrLine,
		"-:":                  api.ErrLine,
		"ann:":                api.ErrLine,
		"u:0123456789abcdefg": api.ErrLine,
		"-:0123456789abcdefg": api.ErrLine,
		"u:\u00e4\u00e4\u00e4\u00e4\u00e4\u00e4\u00e4\u00e4\u00e4": api.ErrLine,
		":x":                  api.ErrName,
		"::":                  api.ErrName,
		" :x":                 api.ErrName,
		"u :x":                api.ErrName,
		"u v:x":               api.ErrName,
		"u-v:x":               api.ErrName,
		"=:x":                 api.ErrName,
		"\u00e4:x":            api.ErrName,
		"0123456789abcdefg:x": api.ErrName,
		"ann:x":               api.ErrTwice,
		"ann:secret":          api.ErrTwice,
		"ann::":               api.ErrTwice,
	} {
		wrong(t, "[a]\nroot = r\nuser = ann:secret\nuser = "+value, 3, e)
	}
	parse(t, "[a]\nroot = r\nuser = ann:secret\nuser = Ann:secret\nuser = an:secret\n[b]\nroot = s\nuser = ann:secret")
}

// P13.2: as many users as can be, and one too many; of each module so many.
func TestMostUsers(t *testing.T) {
	user := func(i int) string { return fmt.Sprintf("user = u%d:s%d", i, i) }
	front := "[a]\nroot = r\n" + lines(8, user)
	m := last(t, front)
	if len(m.Users) != 8 {
		t.Errorf("%v", m)
	}
	for i, u := range m.Users {
		if u != (conf.User{Name: fmt.Sprint("u", i), Secret: fmt.Sprint("s", i)}) {
			t.Errorf("%d: %v", i, u)
		}
	}
	wrong(t, front+"user = u8:s8", 10, api.ErrFull)
	wrong(t, front+"user = u7:s8", 10, api.ErrTwice)
	wrong(t, front+"user = -:x", 10, api.ErrName)
	wrong(t, front+"user = u8:", 10, api.ErrLine)
	if m := last(t, front+"[b]\nroot = s\n"+lines(8, user)); len(m.Users) != 8 {
		t.Errorf("%v", m)
	}
}

// P13.2: the first line that is wrong is told, ahead of what is wrong with modules as a whole, whose place is the module.
func TestFirstFault(t *testing.T) {
	wrong(t, "[a]\nx\n[", 1, api.ErrLine)
	wrong(t, "[a]\nroot = /\n[a]", 1, api.ErrPath)
	wrong(t, "[a]\n[b]\n\n\n[-]", 4, api.ErrName)
	wrong(t, "[a]\nroot = r\n[b]\nroot = r\n[c]\nslots = 0", 5, api.ErrLine)
	wrong(t, "[a]", 0, api.ErrMissing)
	wrong(t, "\n\n\n[a]\nroot = r\n\n\n[b]\nwrite = yes\n[c]", 1, api.ErrMissing)
	wrong(t, "\n\n\n[a]\nroot = r\n[b]\nroot = s\n[c]\nroot = r/x\n[d]", 2, api.ErrPath)
	wrong(t, "[a]\nroot = r\n[b]\nroot = r", 1, api.ErrPath)
	wrong(t, "[a]\nroot = r/s\n[b]\nroot = r", 1, api.ErrPath)
}

// P2, rule 4: an error that was written into isn't kept.
func TestParseErrorsAreNew(t *testing.T) {
	for _, text := range []string{strings.Repeat("#", 8193), "[", "[-]", "[a]\n[a]", "x = 1", "[a]\nslots = 0", "[a]", "[a]\nroot = r\n[b]\nroot = r"} {
		if !probe.NewFaults(func() error { _, err := conf.Parse(text); return err }) {
			t.Errorf("%.20q", text)
		}
	}
}

// P2, rule 4: what is answered is new memory, and no two lists of it share any.
func TestParsedIsNew(t *testing.T) {
	text := "[a]\nroot = r\nuser = u:x\nuser = v:x\nuser = w:x\n[b]\nroot = s\nuser = u:y\nuser = v:y\nuser = w:y\n[c]\nroot = t\nuser = u:z"
	want, _ := parseAs(text)
	c, d := parse(t, text), parse(t, text)
	for i := range c.Modules {
		if i > 0 && !sameModule(c.Modules[i], want.Modules[i]) {
			t.Errorf("a list shares memory with that of module %d", i)
		}
		spoilUsers(c.Modules[i].Users)
	}
	for i := range c.Modules[:cap(c.Modules)] {
		c.Modules[:cap(c.Modules)][i] = conf.Module{Name: "spoiled"}
	}
	if !same(d, want) || !same(parse(t, text), want) {
		t.Errorf("%v", d)
	}
}
