package path_test

import (
	"strings"
	"testing"

	"wharfinger/api"
	"wharfinger/path"
	"wharfinger/probe"
)

// The calls keep the document's signatures, the limits their values.
var (
	_ func(string) error                   = path.Check
	_ func(string, string) (string, error) = path.Join
	_ func(string, string) (string, bool)  = path.Beneath
	_ func(string, string) bool            = path.Clash
	_ func(...string) ([]string, error)    = path.Set
	_ [64]struct{}                         = [path.MaxPath]struct{}{}
	_ [16]struct{}                         = [path.MaxSegment]struct{}{}
	_ [6]struct{}                          = [path.MaxDepth]struct{}{}
)

// good are the bytes that can stand in a segment.
const good = "abcdefghijklmnopqrstuvwxyz0123456789_-."

// checkAs looks at a text as the document words it: the Fault, and whether there is one.
func checkAs(s string) (api.Fault, bool) {
	at := func(place int) (api.Fault, bool) { return api.Fault{At: place, Err: api.ErrPath}, true }
	if s == "" {
		return at(0)
	}
	if len(s) > 64 {
		return at(64)
	}
	number, start := 1, 0
	for {
		end := start
		for end < len(s) && s[end] != '/' {
			end++
		}
		segment := s[start:end]
		if number == 7 || len(segment) == 0 || segment == "." || segment == ".." || len(segment) > 16 {
			return at(start)
		}
		for i := start; i < end; i++ {
			if strings.IndexByte(good, s[i]) < 0 {
				return at(i)
			}
		}
		if end == len(s) {
			return api.Fault{}, false
		}
		number, start = number+1, end+1
	}
}

// sameCheck: does Check answer what the document asks?
func sameCheck(s string) bool {
	want, _ := checkAs(s)
	return probe.Fault(path.Check(s)) == want
}

// P9.1: what is a path.
func TestPaths(t *testing.T) {
	for _, s := range []string{
		"a", "z", "0", "9", "_", "-", "a.b", "a/b.c", "...", "..a", "a..", ".a", "a.", "-.", "_/-", "a/.../b",
		"a/b/c/d/e/f",
		"abcdefghijklmnop",
		"abcdefghijklmnop/qrstuvwxyz_-.012",
		"abcdefghijklmnop/abcdefghijklmnop/abcdefghijklmnop/abcdefghijklm",
		"abcdefghijklmno/abcdefghijklmnop/abcdefghijklm/abcdefghij/a/abcd",
	} {
		if err := path.Check(s); err != nil {
			t.Errorf("%q: %v", s, err)
		}
	}
}

// P9.1: what isn't, and where.
func TestNoPaths(t *testing.T) {
	for _, c := range []struct {
		s  string
		at int
	}{
		{"", 0},
		{"/", 0},
		{"/a", 0},
		{"a/", 2},
		{"a//b", 2},
		{"a/b//", 4},
		{".", 0},
		{"..", 0},
		{"a/.", 2},
		{"a/..", 2},
		{"a/./b", 2},
		{"a/../b", 2},
		{"../a", 0},
		{"A", 0},
		{"aB", 1},
		{"a b", 1},
		{"a/b c", 3},
		{"a/b\x00", 3},
		{"ab\\c", 2},
		{"a:b", 1},
		{"ab\u00e4", 2},
		{"a\xff", 1},
		{"a/Bc/d/", 2},
		{"abcdefghijklmnopq", 0},
		{"abcdEfghijklmnopq", 0},
		{"a/abcdefghijklmnopq", 2},
		{"abcdefghijklmnopq/A", 0},
		{"aA/abcdefghijklmnopq", 1},
		{"aA//", 1},
		{"a/b/c/d/e/f/g", 12},
		{"a/b/c/d/e/f/gH", 12},
		{"a/b/c/d/e/f/", 12},
		{"a/b/c/d/e/f//", 12},
		{"a/b/c/d/e/F/g", 10},
		{"a/b/c/d/e//g", 10},
		{"a/b/c/d/e/", 10},
		{"abcdefghijklmnop/abcdefghijklmnop/abcdefghijklmnop/abcdefghijklmn", 64},
		{"/" + strings.Repeat("a", 64), 64},
		{"/" + strings.Repeat("a", 63), 0},
		{strings.Repeat("A", 65), 64},
		{strings.Repeat("a", 64), 0},
		{strings.Repeat("a/", 40), 64},
		{strings.Repeat("a/", 32), 12},
		{strings.Repeat("A", 1<<20), 64},
	} {
		if fault := probe.Fault(path.Check(c.s)); fault != (api.Fault{At: c.at, Err: api.ErrPath}) {
			t.Errorf("%.70q: %v, not at %d", c.s, fault.Error(), c.at)
		}
	}
}

// P9.1: every byte, at each place of a segment.
func TestEveryByte(t *testing.T) {
	for x := range 256 {
		for _, front := range []string{"", "a", "a/", "a/b", "..", "a/."} {
			for _, behind := range []string{"", "b", "/b", ".", "B"} {
				if s := front + string([]byte{byte(x)}) + behind; !sameCheck(s) {
					t.Errorf("%q: %v", s, path.Check(s))
				}
			}
		}
	}
}

// P9.1: every short text of signs that tell something.
func TestCheckEveryShortText(t *testing.T) {
	for b := range probe.Rows([]byte("a./A"), 9) {
		if !sameCheck(string(b)) {
			t.Fatalf("%q: %v", b, path.Check(string(b)))
		}
	}
	for b := range probe.Rows([]byte("a/"), 15) {
		if !sameCheck(string(b)) {
			t.Fatalf("%q: %v", b, path.Check(string(b)))
		}
	}
}

// P9.1: segments about as long as can be, as many as can be.
func TestCheckLengths(t *testing.T) {
	for n := range 20 {
		for m := range 20 {
			for _, more := range []string{"", "/a", "/a/b/c/d", "/a/b/c/d/e", "/abcdefghijklmnop/abcdefghijklm"} {
				s := strings.Repeat("x", n) + "/" + strings.Repeat("y", m) + more
				if !sameCheck(s) {
					t.Errorf("%q: %v", s, path.Check(s))
				}
			}
		}
	}
}

// P9.2: a path beneath a root.
func TestJoin(t *testing.T) {
	const long = "abcdefghijklmnop/abcdefghijklmnop/abcdefghijklmnop"
	for _, c := range []struct {
		root, s, want string
		at            int // of the error, if nothing is wanted
	}{
		{"r", "a/b", "r/a/b", 0},
		{"r/s", "a", "r/s/a", 0},
		{"", "a/b", "a/b", 0},
		{"", "", "", 0},
		{"", "a//b", "", 2},
		{"", "/a", "", 0},
		{"r", "", "", 2},
		{"r", "/a", "", 2},
		{"r", "a/", "", 4},
		{"r", "..", "", 2},
		{"r", "A", "", 2},
		{"r/", "a", "", 2},
		{"/", "a", "", 0},
		{"R", "a", "", 0},
		{"..", "a", "", 0},
		{"a/b/c", "d/e/f", "a/b/c/d/e/f", 0},
		{"a/b/c", "d/e/f/g", "", 12},
		{"abcdefghijklmnopq", "a", "", 0},
		{long, "abcdefghijklm", long + "/abcdefghijklm", 0},
		{long, "abcdefghijklmn", "", 64},
		{"r", strings.Repeat("a", 1<<20), "", 64},
	} {
		p, err := path.Join(c.root, c.s)
		want := api.Fault{}
		if c.want == "" {
			want = api.Fault{At: c.at, Err: api.ErrPath}
		}
		if p != c.want || probe.Fault(err) != want {
			t.Errorf("%q and %.70q: %q, %v", c.root, c.s, p, err)
		}
	}
}

// P9.2: what a path is beneath a root.
func TestBeneath(t *testing.T) {
	for _, c := range []struct {
		root, s, rest string
		ok            bool
	}{
		{"r", "r/a/b", "a/b", true},
		{"r/a", "r/a/b", "b", true},
		{"r", "r", "r", false},
		{"r", "ra", "ra", false},
		{"r", "r.a/b", "r.a/b", false},
		{"r", "a/r/b", "a/r/b", false},
		{"r", "", "", false},
		{"r", "r/", "", false},
		{"r", "r//", "/", true},
		{"r", "r//a", "/a", true},
		{"r/", "r/a", "r/a", false},
		{"r/", "r//a", "a", true},
		{"/", "/", "/", false},
		{"/", "//", "", false},
		{"/", "//a", "a", true},
		{"/", "/a", "/a", false},
		{"r/a/b", "r/a", "r/a", false},
		{"", "a/b", "a/b", true},
		{"", "/", "/", true},
		{"", "\x00", "\x00", true},
		{"", "", "", false},
		{"R \xff", "R \xff/x", "x", true},
	} {
		if rest, ok := path.Beneath(c.root, c.s); rest != c.rest || ok != c.ok {
			t.Errorf("%q of %q: %q, %v", c.s, c.root, rest, ok)
		}
	}
}

// P9.3: one begins with the other one and a slash.
func TestClash(t *testing.T) {
	for _, c := range []struct {
		a, b string
		want bool
	}{
		{"a", "a/b", true},
		{"a/b", "a/b/c/d", true},
		{"a", "a", false},
		{"a/b", "a/b", false},
		{"a", "ab", false},
		{"a", "a.b/c", false},
		{"a", "a-/c", false},
		{"a/b", "a/c", false},
		{"a", "b/a", false},
		{"b", "a/b", false},
		{"a", "a/", true},
		{"a/", "a/b", false},
		{"a/", "a//b", true},
		{"", "/", true},
		{"", "/a", true},
		{"", "a", false},
		{"", "", false},
		{"/", "/", false},
	} {
		if path.Clash(c.a, c.b) != c.want || path.Clash(c.b, c.a) != c.want {
			t.Errorf("%q and %q", c.a, c.b)
		}
	}
}

// sameAs: are Join, Beneath and Clash of two texts as the document words them?
func sameAs(a, b string) bool {
	long := a + "/" + b
	rest, beneath := b, false
	if a == "" {
		long, beneath = b, b != ""
	} else if len(b) > len(a) && b[:len(a)+1] == a+"/" {
		rest = b[len(a)+1:]
		beneath = rest != ""
	}
	fault, wrong := checkAs(long)
	if wrong {
		long = ""
	}
	clash := strings.Index(b, a+"/") == 0 || strings.Index(a, b+"/") == 0
	gotLong, err := path.Join(a, b)
	gotRest, gotBeneath := path.Beneath(a, b)
	return gotLong == long && probe.Fault(err) == fault && gotRest == rest && gotBeneath == beneath && path.Clash(a, b) == clash
}

// P9.2, P9.3: any two short texts.
func TestEveryTwoShortTexts(t *testing.T) {
	for a := range probe.Rows([]byte("a/.\xff"), 4) {
		for b := range probe.Rows([]byte("a/.\xff"), 5) {
			if !sameAs(string(a), string(b)) {
				t.Fatalf("%q and %q", a, b)
			}
		}
	}
}

// P1, P9.1 to P9.3: any two texts.
func FuzzTexts(f *testing.F) {
	f.Add("", "")
	f.Add("a", "a/b")
	f.Add("a/b/c", "d/e/f/g")
	f.Add("abcdefghijklmnop", "abcdefghijklmnopq/A")
	f.Add("\xff", "\xff/\x00")
	f.Fuzz(func(t *testing.T, a, b string) {
		if !sameCheck(a) || !sameCheck(b) {
			t.Errorf("Check of %q: %v, of %q: %v", a, path.Check(a), b, path.Check(b))
		}
		if !sameAs(a, b) || !sameAs(b, a) || !sameAs(a, a+"/"+b) {
			t.Errorf("%q and %q", a, b)
		}
	})
}

// P2, rule 4: an error that was written into isn't kept.
func TestErrorsAreNew(t *testing.T) {
	for _, s := range []string{"", "aB", "a//b", "a/b/c/d/e/f/g", strings.Repeat("a", 65)} {
		if !probe.NewFaults(func() error { return path.Check(s) }) {
			t.Errorf("Check of %q", s)
		}
		if !probe.NewFaults(func() error { _, err := path.Join("r", s); return err }) {
			t.Errorf("Join of %q", s)
		}
	}
}
