package sum_test

import (
	"bytes"
	"crypto/hmac"
	"crypto/sha256"
	"encoding/hex"
	"math"
	"strings"
	"sync"
	"testing"

	"wharfinger/api"
	"wharfinger/probe"
	"wharfinger/sum"
)

// The calls keep the document's signatures.
var (
	_ func(...[]byte) api.Sum         = sum.Of
	_ func(int, []byte) api.Sum       = sum.Cut
	_ func([]byte, ...[]byte) api.Sum = sum.Mac
	_ func(api.Sum) string            = sum.Text
	_ [32]struct{}                    = [sum.Whole]struct{}{}
)

func macOf(key, data []byte) api.Sum {
	h := hmac.New(sha256.New, key)
	h.Write(data)
	return api.Sum(h.Sum(nil))
}

// P1.1: the standard's own examples.
func TestOfStandardExamples(t *testing.T) {
	for _, c := range []struct{ in, want string }{
		{"", "e3b0c44298fc1c149afbf4c8996fb92427ae41e4649b934ca495991b7852b855"},
		{"abc", "ba7816bf8f01cfea414140de5dae2223b00361a396177a9cb410ff61f20015ad"},
		{"abcdbcdecdefdefgefghfghighijhijkijkljklmklmnlmnomnopnopq", "248d6a61d20638b8e5c026930c3e6039a33ce45964ff2167f6ecedd419db06c1"},
		{"abcdefghbcdefghicdefghijdefghijkefghijklfghijklmghijklmnhijklmnoijklmnopjklmnopqklmnopqrlmnopqrsmnopqrstnopqrstu", "cf5b16a778af8380036ce59e7b0492370b249b11e8f07a51afac45037afee9d1"},
		{strings.Repeat("a", 1000000), "cdc76e5c9914fb9281a1c7e284d73e67f1809a48a497200e046d39ccc7112cd0"},
	} {
		got := sum.Of([]byte(c.in))
		if hex.EncodeToString(got[:]) != c.want {
			t.Errorf("Of %d bytes: %x, not %s", len(c.in), got, c.want)
		}
	}
}

// P1.1: every length around the ends of blocks, where the mark and the length need a block more or not.
func TestOfEveryLength(t *testing.T) {
	for n := range 400 {
		b := probe.Bytes(n)
		if got, want := sum.Of(b), api.Sum(sha256.Sum256(b)); got != want {
			t.Errorf("Of %d bytes: %x, not %x", n, got, want)
		}
	}
}

// P1.1: where one part ends and the next begins doesn't count, nor do empty parts.
func TestOfParts(t *testing.T) {
	empty := api.Sum(sha256.Sum256(nil))
	for _, parts := range [][][]byte{nil, {}, {nil}, {{}, nil, {}}} {
		if got := sum.Of(parts...); got != empty {
			t.Errorf("Of %d empty parts: %x", len(parts), got)
		}
	}
	b := probe.Bytes(150)
	want := api.Sum(sha256.Sum256(b))
	for i := range len(b) + 1 {
		for j := i; j <= len(b); j++ {
			if got := sum.Of(b[:i], nil, b[i:j], []byte{}, b[j:]); got != want {
				t.Fatalf("Of parts cut at %d and %d: %x, not %x", i, j, got, want)
			}
		}
	}
	single := make([][]byte, len(b))
	for i := range b {
		single[i] = b[i : i+1]
	}
	if got := sum.Of(single...); got != want {
		t.Errorf("Of single bytes: %x, not %x", got, want)
	}
	if sum.Of([]byte("a"), []byte("b")) == sum.Of([]byte("b"), []byte("a")) {
		t.Error("the order of parts doesn't count")
	}
}

// P1.1: the number of bits needs more than 32 bits.
func TestOfManyBits(t *testing.T) {
	if testing.Short() {
		t.Skip("sums half a gigabyte")
	}
	part := probe.Bytes(1 << 20)
	parts := make([][]byte, 513)
	h := sha256.New()
	for i := range parts {
		parts[i] = part
		h.Write(part)
	}
	if got, want := sum.Of(parts...), api.Sum(h.Sum(nil)); got != want {
		t.Errorf("Of 513 MiB: %x, not %x", got, want)
	}
}

// P1.2: the first n bytes, noughts behind them; n outside 0 to 32 is as the nearer end.
func TestCut(t *testing.T) {
	for _, b := range [][]byte{nil, {}, []byte("abc"), probe.Bytes(64), probe.Bytes(1000)} {
		whole := sha256.Sum256(b)
		for _, n := range []int{math.MinInt, -1000, -33, -32, -1, math.MaxInt, 1 << 30, 1000, 256, 65, 64, 33} {
			want := api.Sum{}
			if n > 0 {
				want = whole
			}
			if got := sum.Cut(n, b); got != want {
				t.Errorf("Cut %d of %d bytes: %x, not %x", n, len(b), got, want)
			}
		}
		for n := 0; n <= 32; n++ {
			got := sum.Cut(n, b)
			if !bytes.Equal(got[:n], whole[:n]) || !bytes.Equal(got[n:], make([]byte, 32-n)) {
				t.Errorf("Cut %d of %d bytes: %x of %x", n, len(b), got, whole)
			}
		}
	}
	if sum.Cut(0, []byte("a")) != sum.Cut(0, []byte("b")) || sum.Cut(1, []byte("a")) == sum.Cut(1, []byte("b")) {
		t.Error("with 0 all have one sum, with 1 not")
	}
}

// P1.3: the examples of RFC 4231 (but for the one that is cut short).
func TestMacStandardExamples(t *testing.T) {
	counting := make([]byte, 25)
	for i := range counting {
		counting[i] = byte(i + 1)
	}
	long := bytes.Repeat([]byte{0xaa}, 131)
	for i, c := range []struct {
		key, data []byte
		want      string
	}{
		{bytes.Repeat([]byte{0x0b}, 20), []byte("Hi There"), "b0344c61d8db38535ca8afceaf0bf12b881dc200c9833da726e9376c2e32cff7"},
		{[]byte("Jefe"), []byte("what do ya want for nothing?"), "5bdcc146bf60754e6a042426089575c75a003f089d2739839dec58b964ec3843"},
		{bytes.Repeat([]byte{0xaa}, 20), bytes.Repeat([]byte{0xdd}, 50), "773ea91e36800e46854db8ebd09181a72959098b3ef8c122d9635514ced565fe"},
		{counting, bytes.Repeat([]byte{0xcd}, 50), "82558a389a443c0ea4cc819899f2083a85f0faa3e578f8077a2e3ff46729665b"},
		{long, []byte("Test Using Larger Than Block-Size Key - Hash Key First"), "60e431591ee0b67f0d8a26aacbf5b77f8e0bc6213728c5140546040f0ee37f54"},
		{long, []byte("This is a test using a larger than block-size key and a larger than block-size data. The key needs to be hashed before being used by the HMAC algorithm."), "9b09ffa71b942fcb27635fbcd5b0e944bfdc63644f0713938a7f51535c3a35e2"},
	} {
		got := sum.Mac(c.key, c.data)
		if hex.EncodeToString(got[:]) != c.want {
			t.Errorf("example %d: %x, not %s", i, got, c.want)
		}
	}
}

// P1.3: keys around a block's length, above which they are summed first.
func TestMacEveryKeyLength(t *testing.T) {
	for n := range 140 {
		key := probe.Bytes(n)
		for _, m := range []int{0, 1, 55, 56, 63, 64, 65, 200} {
			data := probe.Bytes(m)
			if got, want := sum.Mac(key, data), macOf(key, data); got != want {
				t.Errorf("Mac, key of %d, data of %d: %x, not %x", n, m, got, want)
			}
		}
	}
}

// P1.3: the parts are one behind the other; the key is apart from them.
func TestMacParts(t *testing.T) {
	key, data := []byte("key"), probe.Bytes(130)
	want := macOf(key, data)
	for i := range len(data) + 1 {
		if got := sum.Mac(key, data[:i], nil, data[i:]); got != want {
			t.Errorf("Mac of parts cut at %d: %x, not %x", i, got, want)
		}
	}
	if sum.Mac(key) != macOf(key, nil) || sum.Mac(key, nil, []byte{}) != macOf(key, nil) {
		t.Error("Mac of no parts, and of empty ones")
	}
	if sum.Mac(nil) != macOf(nil, nil) || sum.Mac([]byte{}, []byte("x")) != macOf(nil, []byte("x")) {
		t.Error("Mac with no key")
	}
	if sum.Mac([]byte("ab"), []byte("c")) == sum.Mac([]byte("a"), []byte("bc")) {
		t.Error("the key runs into the parts")
	}
}

// P1.4: 64 digits, of each byte the higher four bits first.
func TestText(t *testing.T) {
	if got := sum.Text(api.Sum{}); got != strings.Repeat("0", 64) {
		t.Errorf("Text of noughts: %s", got)
	}
	if got := sum.Text(api.Sum{0: 0x0f, 1: 0xf0, 2: 0x9a, 31: 0xbc}); got != "0ff09a"+strings.Repeat("0", 56)+"bc" {
		t.Errorf("Text: %s", got)
	}
	for first := 0; first < 256; first += 32 {
		var s api.Sum
		for i := range s {
			s[i] = byte(first + i)
		}
		if got, want := sum.Text(s), hex.EncodeToString(s[:]); got != want {
			t.Errorf("Text: %s, not %s", got, want)
		}
	}
	if got := sum.Text(sum.Of([]byte("abc"))); got[:8] != "ba7816bf" {
		t.Errorf("Text of the sum of abc: %s", got)
	}
}

// P2, rule 4: what is handed in is as it was, its spare room and the list of parts too.
func TestArgumentsStay(t *testing.T) {
	for _, n := range []int{0, 1, 55, 63, 64, 65, 100} {
		room := probe.Bytes(200)
		part := room[:n]
		parts := [][]byte{part, part, nil, part}[:2]
		before := bytes.Clone(room)
		sum.Of(parts...)
		sum.Cut(5, part)
		sum.Mac(part, parts...)
		if !bytes.Equal(room, before) {
			t.Errorf("parts of %d bytes: their memory was changed", n)
		}
		all := parts[:4]
		if len(all[0]) != n || len(all[1]) != n || all[2] != nil || len(all[3]) != n {
			t.Errorf("parts of %d bytes: the list was changed", n)
		}
	}
}

// P2, rule 4: nothing is kept, and what was answered stays when the arguments change.
func TestAnswersHangOnArgumentsAlone(t *testing.T) {
	b := []byte("abc")
	of, cut, mac := sum.Of(b), sum.Cut(7, b), sum.Mac(b, b)
	b[0] = 'x'
	sum.Of(probe.Bytes(100))
	sum.Mac(probe.Bytes(100), probe.Bytes(50))
	if of != sum.Of([]byte("abc")) || cut != sum.Cut(7, []byte("abc")) || mac != sum.Mac([]byte("abc"), []byte("abc")) {
		t.Error("an earlier call is to be seen in an answer")
	}
}

// P2, rule 4: calls at the same time don't touch each other.
func TestManyAtOnce(t *testing.T) {
	var wg sync.WaitGroup
	for n := range 16 {
		wg.Go(func() {
			b := probe.Bytes(n * 37)
			for range 50 {
				if sum.Of(b) != sha256.Sum256(b) || sum.Mac(b, b) != macOf(b, b) {
					t.Errorf("%d bytes: another sum beside other calls", len(b))
					return
				}
			}
		})
	}
	wg.Wait()
}

// P1: any bytes and numbers are taken.
func FuzzAnyArguments(f *testing.F) {
	f.Add(0, []byte(nil), []byte(nil))
	f.Add(-1, []byte("key"), []byte("data"))
	f.Add(math.MaxInt, probe.Bytes(64), probe.Bytes(65))
	f.Add(math.MinInt, probe.Bytes(65), probe.Bytes(119))
	f.Fuzz(func(t *testing.T, n int, a, b []byte) {
		both := append(bytes.Clone(a), b...)
		if sum.Of(a, b) != sha256.Sum256(both) {
			t.Error("Of")
		}
		if sum.Mac(a, b, a) != macOf(a, append(bytes.Clone(b), a...)) {
			t.Error("Mac")
		}
		if got := sum.Cut(n, a); n >= sum.Whole && got != sum.Of(a) || n <= 0 && got != (api.Sum{}) {
			t.Error("Cut")
		}
		if s := sum.Of(b); sum.Text(s) != hex.EncodeToString(s[:]) {
			t.Error("Text")
		}
	})
}
