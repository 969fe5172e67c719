package auth_test

import (
	"crypto/hmac"
	"crypto/sha256"
	"slices"
	"strings"
	"testing"

	"wharfinger/api"
	"wharfinger/auth"
	"wharfinger/conf"
	"wharfinger/probe"
	"wharfinger/sum"
)

// The calls keep the document's signatures; a nonce is an array of 16 bytes.
var (
	_ func(string, string, auth.Nonce) api.Sum                                 = auth.Answer
	_ func(m conf.Module, user string, n auth.Nonce, answer api.Sum) api.Errno = auth.Check
	_ auth.Nonce                                                               = [16]byte{}
)

// answerAs: the answer as the document words it.
func answerAs(secret, module string, n auth.Nonce) api.Sum {
	h := hmac.New(sha256.New, []byte(secret))
	h.Write(slices.Concat(n[:], []byte(module)))
	return api.Sum(h.Sum(nil))
}

// counting: the bytes from 1 to 16.
func counting() auth.Nonce { return auth.Nonce{1, 2, 3, 4, 5, 6, 7, 8, 9, 10, 11, 12, 13, 14, 15, 16} }

// home: a module with some users, two of one name among them, and one with a secret that no text can have.
func home() conf.Module {
	return conf.Module{Name: "home", Root: "r", Users: []conf.User{
		{Name: "ann", Secret: "x"}, {Name: "bob", Secret: "y"}, {Name: "ann", Secret: "z"}, {Name: "eve", Secret: ""}, {Name: "", Secret: "w"},
	}}
}

// P14.1: answers that were reckoned elsewhere.
func TestAnswerExamples(t *testing.T) {
	all := auth.Nonce{}
	for i := range all {
		all[i] = 255
	}
	for _, c := range []struct {
		secret, module string
		n              auth.Nonce
		want           string
	}{
		{"secret", "home", counting(), "1e444a3d7fd3e1dc7a1ac4c65341180e5b7dd44cd03c1e3f174a3490dec3ff9a"},
		{"", "", auth.Nonce{}, "853c7403937d8b6239569b184eb7993fc5f751aefcea28f2c863858e2d29c50b"},
		{strings.Repeat("k", 65), "\xff\x00", all, "82fea1e51694caf232130010e56a6bbbb6f826557266786e70dbec6917b91e69"},
	} {
		if got := sum.Text(auth.Answer(c.secret, c.module, c.n)); got != c.want {
			t.Errorf("%q, %q, %v: %s, not %s", c.secret, c.module, c.n, got, c.want)
		}
	}
}

// P14.1: secrets and modules of many lengths, of any bytes.
func TestAnswer(t *testing.T) {
	for n := range 140 {
		for _, m := range []int{0, 1, 16, 40, 47, 48, 100} {
			secret, module := string(probe.Bytes(n)), string(probe.Bytes(m))
			if got := auth.Answer(secret, module, counting()); got != answerAs(secret, module, counting()) {
				t.Errorf("a secret of %d bytes, a module of %d: %x", n, m, got)
			}
		}
	}
}

// P14.1: the secret, the module and each byte of the nonce count, and where one ends.
func TestAnswersDiffer(t *testing.T) {
	answers := map[api.Sum]int{}
	count := 0
	add := func(secret, module string, n auth.Nonce) {
		answers[auth.Answer(secret, module, n)] = count
		count++
	}
	for _, names := range [][2]string{{"x", "home"}, {"home", "x"}, {"xh", "ome"}, {"", "xhome"}, {"xhome", ""}, {"X", "home"}, {"x", "Home"}, {"x", "home\x00"}} {
		add(names[0], names[1], counting())
	}
	for i := range 16 {
		n := counting()
		n[i] ^= 128
		add("x", "home", n)
	}
	if len(answers) != count {
		t.Errorf("%d answers, not %d", len(answers), count)
	}
}

// P14.2: the document's examples.
func TestExample(t *testing.T) {
	n := counting()
	if e := auth.Check(home(), "ann", n, auth.Answer("x", "home", n)); e != api.OK {
		t.Errorf("ann: %d", e)
	}
	if e := auth.Check(home(), "bob", n, auth.Answer("x", "home", n)); e != api.ErrProof {
		t.Errorf("bob: %d", e)
	}
}

// P14.2: who is let in, and who isn't.
func TestCheck(t *testing.T) {
	n, other := counting(), auth.Nonce{1}
	for _, c := range []struct {
		user   string
		answer api.Sum
		want   api.Errno
	}{
		{"ann", auth.Answer("x", "home", n), api.OK},
		{"bob", auth.Answer("y", "home", n), api.OK},
		{"eve", auth.Answer("", "home", n), api.OK},
		{"", auth.Answer("w", "home", n), api.OK},
		{"ann", auth.Answer("z", "home", n), api.ErrProof},
		{"ann", auth.Answer("y", "home", n), api.ErrProof},
		{"ann", auth.Answer("", "home", n), api.ErrProof},
		{"ann", auth.Answer("x ", "home", n), api.ErrProof},
		{"ann", auth.Answer("X", "home", n), api.ErrProof},
		{"ann", auth.Answer("x", "Home", n), api.ErrProof},
		{"ann", auth.Answer("x", "", n), api.ErrProof},
		{"ann", auth.Answer("x", "r", n), api.ErrProof},
		{"ann", auth.Answer("x", "home", other), api.ErrProof},
		{"ann", auth.Answer("x", "home", auth.Nonce{}), api.ErrProof},
		{"ann", auth.Answer("home", "x", n), api.ErrProof},
		{"ann", api.Sum{}, api.ErrProof},
		{"ann", sum.Of([]byte("x")), api.ErrProof},
		{"Ann", auth.Answer("x", "home", n), api.ErrProof},
		{"an", auth.Answer("x", "home", n), api.ErrProof},
		{"ann ", auth.Answer("x", "home", n), api.ErrProof},
		{"x", auth.Answer("x", "home", n), api.ErrProof},
		{"nobody", auth.Answer("", "home", n), api.ErrProof},
		{"nobody", auth.Answer("x", "home", n), api.ErrProof},
		{"nobody", api.Sum{}, api.ErrProof},
		{"\xff", auth.Answer("x", "home", n), api.ErrProof},
	} {
		if e := auth.Check(home(), c.user, n, c.answer); e != c.want {
			t.Errorf("%q, %x: %d, not %d", c.user, c.answer, e, c.want)
		}
	}
}

// P14.2: a module in which nobody is lets nobody in.
func TestNobody(t *testing.T) {
	for _, m := range []conf.Module{{}, {Name: "home"}, {Name: "home", Users: []conf.User{}}, {Name: "home", Users: []conf.User{{Name: "u"}}}} {
		for _, user := range []string{"", "home", "ann"} {
			for _, answer := range []api.Sum{{}, auth.Answer("", m.Name, auth.Nonce{}), auth.Answer(user, m.Name, auth.Nonce{})} {
				if e := auth.Check(m, user, auth.Nonce{}, answer); e != api.ErrProof {
					t.Errorf("%v, %q: %d", m, user, e)
				}
			}
		}
	}
}

// P14.2: each bit of an answer counts, and each of the nonce.
func TestEveryBit(t *testing.T) {
	n := counting()
	right := auth.Answer("x", "home", n)
	for bit := range 8 * len(right) {
		answer := right
		answer[bit/8] ^= 1 << (bit % 8)
		if e := auth.Check(home(), "ann", n, answer); e != api.ErrProof {
			t.Errorf("bit %d of the answer: %d", bit, e)
		}
	}
	for bit := range 8 * len(n) {
		other := n
		other[bit/8] ^= 1 << (bit % 8)
		if e := auth.Check(home(), "ann", other, right); e != api.ErrProof {
			t.Errorf("bit %d of the nonce: %d", bit, e)
		}
	}
}

// P14.2: a user of a text, and one of another module with the same secret.
func TestCheckOfText(t *testing.T) {
	c, err := conf.Parse("[home]\nroot = a\nuser = ann:x\n[work]\nroot = b\nuser = ann:x\nuser = bob:a:b")
	if err != nil {
		t.Fatal(err)
	}
	work, _ := c.Find("work")
	n := counting()
	for _, s := range []struct {
		user   string
		answer api.Sum
		want   api.Errno
	}{
		{"ann", auth.Answer("x", "work", n), api.OK},
		{"ann", auth.Answer("x", "home", n), api.ErrProof},
		{"bob", auth.Answer("a:b", "work", n), api.OK},
		{"bob", auth.Answer("a", "work", n), api.ErrProof},
	} {
		if e := auth.Check(work, s.user, n, s.answer); e != s.want {
			t.Errorf("%s: %d, not %d", s.user, e, s.want)
		}
	}
}

// P2: nothing is changed or kept: the same is answered again, whatever was asked between.
func TestNothingIsKept(t *testing.T) {
	m, n := home(), counting()
	want := slices.Clone(m.Users)
	first := auth.Answer("x", "home", n)
	for range 3 {
		auth.Check(m, "ann", n, api.Sum{})
		auth.Answer("y", "home", auth.Nonce{})
		if auth.Check(m, "ann", n, first) != api.OK || auth.Answer("x", "home", n) != first {
			t.Error("an earlier call is to be seen in an answer")
		}
	}
	if n != counting() || !slices.Equal(m.Users, want) {
		t.Errorf("%v, %v", n, m)
	}
	m.Users[0].Secret = "changed"
	if auth.Check(m, "ann", n, first) != api.ErrProof || auth.Check(m, "ann", n, auth.Answer("changed", "home", n)) != api.OK {
		t.Error("a secret is kept")
	}
}

// P1, P14.1, P14.2: any texts and bytes.
func FuzzAny(f *testing.F) {
	f.Add("ann", "x", "home", "ann", "x", "home", probe.Bytes(16))
	f.Add("ann", "x", "home", "bob", "x", "home", probe.Bytes(48))
	f.Add("", "", "", "", "", "", []byte(nil))
	f.Add("\xff", strings.Repeat("k", 100), "\x00", "\xff", strings.Repeat("k", 100), "\x00", []byte("n"))
	f.Fuzz(func(t *testing.T, user, secret, module, asked, known, named string, raw []byte) {
		var n auth.Nonce
		var answer api.Sum
		copy(answer[:], raw[copy(n[:], raw):])
		m := conf.Module{Name: module, Users: []conf.User{{Name: user, Secret: secret}}}
		told := auth.Answer(known, named, n)
		if told != answerAs(known, named, n) {
			t.Errorf("Answer: %x", told)
		}
		for _, a := range []api.Sum{told, answer} {
			want := api.ErrProof
			if asked == user && a == answerAs(secret, module, n) {
				want = api.OK
			}
			if e := auth.Check(m, asked, n, a); e != want {
				t.Errorf("Check: %d, not %d", e, want)
			}
		}
	})
}
