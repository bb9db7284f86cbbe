package term_test

import (
	"math"
	"strings"
	"testing"

	"snicket/api"
	"snicket/num"
	"snicket/term"
)

// all has a term of each kind, with its number, bytes and parts.
var all = []struct {
	t     string
	kind  int
	n     uint64
	has   bool
	b     string
	parts []string
}{
	{"0", term.Zero, 0, false, "", nil},
	{"a0", term.Atom, 0, true, "", nil},
	{"a4294967295", term.Atom, math.MaxUint32, true, "", nil},
	{"n0", term.Number, 0, true, "", nil},
	{"n18446744073709551615", term.Number, math.MaxUint64, true, "", nil},
	{"x", term.Data, 0, false, "", nil},
	{"x0aff", term.Data, 0, false, "\x0a\xff", nil},
	{"p(0)", term.Pub, 0, false, "", []string{"0"}},
	{"p(p(a1))", term.Pub, 0, false, "", []string{"p(a1)"}},
	{"d(a1,a1)", term.Dh, 0, false, "", []string{"a1", "a1"}},
	{"d(a10,a9)", term.Dh, 0, false, "", []string{"a10", "a9"}},
	{"d(0,a1)", term.Dh, 0, false, "", []string{"0", "a1"}},
	{"h(0)", term.Hash, 0, false, "", []string{"0"}},
	{"h(0,x00,l(),a1)", term.Hash, 0, false, "", []string{"0", "x00", "l()", "a1"}},
	{"k(1,a1,0)", term.Kdf, 1, true, "", []string{"a1", "0"}},
	{"k(3,h(a1,a2),d(a1,a2))", term.Kdf, 3, true, "", []string{"h(a1,a2)", "d(a1,a2)"}},
	{"m(a2,a1)", term.Mac, 0, false, "", []string{"a2", "a1"}},
	{"s(0,a1,x00,0)", term.Seal, 0, true, "", []string{"a1", "x00", "0"}},
	{"s(18446744073709551615,a3,a2,a1)", term.Seal, math.MaxUint64, true, "", []string{"a3", "a2", "a1"}},
	{"l()", term.List, 0, false, "", nil},
	{"l(l())", term.List, 0, false, "", []string{"l()"}},
	{"l(n2,n1,n2)", term.List, 0, false, "", []string{"n2", "n1", "n2"}},
}

func same(a, b []string) bool {
	return strings.Join(a, ";") == strings.Join(b, ";") && len(a) == len(b)
}

// P2.1: kind, parts, number and bytes of each kind.
func TestRead(t *testing.T) {
	for _, c := range all {
		if k := term.Kind(c.t); k != c.kind {
			t.Errorf("Kind(%q) = %d", c.t, k)
		}
		if p := term.Parts(c.t); !same(p, c.parts) {
			t.Errorf("Parts(%q) = %q", c.t, p)
		}
		if n, ok := term.Value(c.t); n != c.n || ok != c.has {
			t.Errorf("Value(%q) = %d, %v", c.t, n, ok)
		}
		if b, ok := term.Bytes(c.t); string(b) != c.b || ok != (c.kind == term.Data) {
			t.Errorf("Bytes(%q) = %v, %v", c.t, b, ok)
		}
	}
}

// P2.1: texts that are no terms.
func TestNone(t *testing.T) {
	for _, s := range []string{
		"", " ", "1", "00", "0 ", " 0", "a", "a01", "a-1", "a4294967296", "A1", "n", "n00", "n18446744073709551616",
		"x0", "xg0", "xA0", "x0a ", "p", "p()", "p(", "p(0", "p(0,0)", "p(0))", "p0", "p(00)", "(0)", "q(0)",
		"d(0)", "d(a2,a1)", "d(a1,0)", "d(a1,a2,a3)", "d(,)", "h()", "h(0,)", "h(,0)", "h(0;0)", "h(0, 0)",
		"k(0,a1,a2)", "k(4,a1,a2)", "k(1,a1)", "k(1,a1,a2,a3)", "k(a1,a2)", "k(01,a1,a2)", "k(1)", "k()",
		"m(0)", "m(0,0,0)", "m()", "s(a1,a2,a3)", "s(1,a2,a3)", "s(1,a1,a2,a3,a4)", "s(18446744073709551616,0,0,0)", "s(00,0,0,0)", "s()",
		"l", "l(", "l(0", "l(0,", "l(0,)", "l(,)", "l()l()", "l())", "l(x)y", "\x00", "\xff", "p(\xff)", "p(d(a2,a1))", "L()",
		"h(0)\n", "d(p(a2),a1)",
	} {
		n, ok := term.Value(s)
		b, is := term.Bytes(s)
		if k, p := term.Kind(s), term.Parts(s); k != 0 || len(p) != 0 || n != 0 || ok || len(b) != 0 || is {
			t.Errorf("%q is told to be %d, %q, %d, %v, %v, %v", s, k, p, n, ok, b, is)
		}
	}
}

// P2.1: a term has at most MaxTerm bytes.
func TestLongest(t *testing.T) {
	most := "p(x" + strings.Repeat("00", (api.MaxTerm-4)/2) + ")"
	if len(most) != api.MaxTerm || term.Kind(most) != term.Pub {
		t.Error("a term of MaxTerm bytes is refused")
	}
	over := "h(0,x" + strings.Repeat("00", (api.MaxTerm-4)/2) + ")"
	if term.Kind(over) != 0 || len(term.Parts(over)) != 0 {
		t.Error("a term above MaxTerm is taken")
	}
	if term.Kind("x"+strings.Repeat("0", 1<<20)) != 0 {
		t.Error("a long text is taken")
	}
}

// R1: deep terms, and such as end in the midst, end.
func TestDeep(t *testing.T) {
	n := (api.MaxTerm - 1) / 3
	deep := strings.Repeat("p(", n) + "0" + strings.Repeat(")", n)
	if term.Kind(deep) != term.Pub || len(term.Parts(deep)) != 1 {
		t.Error("a deep term is refused")
	}
	if term.Kind(strings.Repeat("p(", api.MaxTerm/2)) != 0 {
		t.Error("a term without end is taken")
	}
	left := strings.Repeat("d(", 5000) + "0" + strings.Repeat(",l())", 5000)
	if term.Kind(left) != term.Dh {
		t.Error("a deep term is refused on the left")
	}
}

// P2.2, P2.4: what is made of parts has these parts.
func TestMake(t *testing.T) {
	for _, c := range all {
		if got := term.Make(c.kind, c.n, []byte(c.b), c.parts...); got != c.t {
			t.Errorf("Make of %q is %q", c.t, got)
		}
	}
	if got := term.Make(term.Dh, 9, []byte{1}, "a2", "a1"); got != "d(a1,a2)" {
		t.Error("both parts of", got, "aren't in order")
	}
	for _, c := range []struct {
		kind int
		l    []string
		want string
	}{
		{term.Zero, nil, "0"}, {term.Pub, []string{"a1"}, "p(a1)"}, {term.Hash, []string{"0"}, "h(0)"},
		{term.Mac, []string{"a2", "a1"}, "m(a2,a1)"}, {term.List, nil, "l()"},
	} {
		if got := term.Make(c.kind, math.MaxUint64, []byte{1}, c.l...); got != c.want {
			t.Errorf("a number and bytes that %q hasn't make %q of it", c.want, got)
		}
	}
	if term.Make(term.Number, 7, []byte{1}) != "n7" || term.Make(term.Data, 7, []byte{1}) != "x01" || term.Make(term.Data, 7, nil) != "x" {
		t.Error("a number, or bytes, that the kind hasn't play a part")
	}
}

// P2.2: what can't be made.
func TestMakeNothing(t *testing.T) {
	for i, c := range []struct {
		kind int
		n    uint64
		l    []string
	}{
		{0, 0, nil}, {12, 0, nil}, {-1, 0, nil}, {math.MaxInt, 0, nil}, {math.MinInt, 0, []string{"0"}}, {0, 0, []string{"0"}},
		{term.Zero, 0, []string{"0"}}, {term.Atom, 1, []string{"0"}}, {term.Number, 1, []string{"0"}}, {term.Data, 0, []string{"0"}},
		{term.Atom, 1 << 32, nil}, {term.Atom, math.MaxUint64, nil},
		{term.Pub, 0, nil}, {term.Pub, 0, []string{"0", "0"}}, {term.Pub, 0, []string{""}}, {term.Pub, 0, []string{"y"}}, {term.Pub, 0, []string{"0,0"}},
		{term.Dh, 0, nil}, {term.Dh, 0, []string{"0"}}, {term.Dh, 0, []string{"0", "0", "0"}}, {term.Dh, 0, []string{"", "0"}}, {term.Dh, 0, []string{"0", ""}},
		{term.Hash, 0, nil}, {term.Hash, 0, []string{"0", "z"}},
		{term.Kdf, 0, []string{"0", "0"}}, {term.Kdf, 4, []string{"0", "0"}}, {term.Kdf, 1, []string{"0"}}, {term.Kdf, 1, []string{"0", "0", "0"}},
		{term.Mac, 0, []string{"0"}}, {term.Mac, 0, []string{"0", "0", "0"}},
		{term.Seal, 0, []string{"0", "0"}}, {term.Seal, 0, []string{"0", "0", "0", "0"}},
		{term.List, 0, []string{"0", "l("}},
	} {
		if got := term.Make(c.kind, c.n, nil, c.l...); got != "" {
			t.Errorf("%d: %q was made", i, got)
		}
	}
}

// P2.2: nothing longer than MaxTerm is made; just as long is.
func TestMakeLong(t *testing.T) {
	b := make([]byte, api.MaxTerm)
	if s := term.Make(term.Data, 0, b[:(api.MaxTerm-2)/2]); len(s) != api.MaxTerm-1 {
		t.Error("the longest Data has", len(s))
	}
	if term.Make(term.Data, 0, b[:api.MaxTerm/2]) != "" || term.Make(term.Data, 0, b) != "" {
		t.Error("Data above MaxTerm is made")
	}
	x := term.Make(term.Data, 0, b[:(api.MaxTerm-4)/2])
	if s := term.Make(term.Pub, 0, nil, x); len(s) != api.MaxTerm {
		t.Error("a Pub of MaxTerm bytes isn't made")
	}
	if term.Make(term.Hash, 0, nil, x, "0") != "" || term.Make(term.Hash, 0, nil, x, x, x) != "" || term.Make(term.Seal, 10, nil, x, "0", "0") != "" {
		t.Error("a term above MaxTerm is made")
	}
	if term.Make(term.List, 0, nil, make([]string, 1<<20)...) != "" {
		t.Error("a list of no terms is made")
	}
	if term.Agree(x, "p(0)") != "" {
		t.Error("Agree makes a term above MaxTerm")
	}
}

// R4: what is handed in stays as it is.
func TestKept(t *testing.T) {
	l := []string{"a2", "a1"}
	term.Make(term.Dh, 0, nil, l...)
	if !same(l, []string{"a2", "a1"}) {
		t.Error("the parts that were handed in were put in order")
	}
	p := term.Parts("h(a1,a2)")
	p[0] = "0"
	if !same(term.Parts("h(a1,a2)"), []string{"a1", "a2"}) {
		t.Error("two answers share parts")
	}
}

// P2.3, P2.4: who agree by each other's Pub have the same.
func TestAgree(t *testing.T) {
	for _, c := range []struct{ x, p, want string }{
		{"a1", "p(a0)", "d(a0,a1)"}, {"a0", "p(a1)", "d(a0,a1)"}, {"a1", "p(a1)", "d(a1,a1)"}, {"0", "p(p(a1))", "d(0,p(a1))"},
		{"", "p(a0)", ""}, {"y", "p(a0)", ""}, {"a1", "a0", ""}, {"a1", "", ""}, {"a1", "h(a0)", ""}, {"a1", "p(a0", ""}, {"a1", "p(a0,a1)", ""},
	} {
		if got := term.Agree(c.x, c.p); got != c.want {
			t.Errorf("Agree(%q, %q) = %q", c.x, c.p, got)
		}
	}
	secrets := []string{"0", "a1", "a2", "x00", "n7", "p(a1)", "d(a1,a2)", "l()"}
	for _, x := range secrets {
		for _, y := range secrets {
			one := term.Agree(x, term.Make(term.Pub, 0, nil, y))
			other := term.Agree(y, term.Make(term.Pub, 0, nil, x))
			if one != other || term.Kind(one) != term.Dh {
				t.Errorf("%q and %q agree on %q and %q", x, y, one, other)
			}
		}
	}
}

// P2.3: a Seal opens by its own key, number and third part alone.
func TestOpen(t *testing.T) {
	const s = "s(7,a1,x00,0)"
	for _, c := range []struct {
		t, key string
		n      uint64
		v      string
		want   string
		e      api.Code
	}{
		{s, "a1", 7, "0", "x00", api.Fine},
		{"s(0,h(a1),l(a2),a3)", "h(a1)", 0, "a3", "l(a2)", api.Fine},
		{s, "a2", 7, "0", "", api.Key}, {s, "a1", 8, "0", "", api.Key}, {s, "a1", 7, "x", "", api.Key}, {s, "", 7, "0", "", api.Key}, {s, "a1", 7, "", "", api.Key},
		{s, "0", 7, "a1", "", api.Key}, {s, "a1", 7, "x00", "", api.Key},
		{"m(a1,0)", "a1", 7, "0", "", api.Form}, {"", "", 0, "", "", api.Form}, {"s(7,a1,x00)", "a1", 7, "0", "", api.Form}, {s + " ", "a1", 7, "0", "", api.Form},
		{"k(1,a1,x00)", "a1", 1, "x00", "", api.Form}, {"l(a1,x00,0)", "a1", 0, "0", "", api.Form},
	} {
		if u, e := term.Open(c.t, c.key, c.n, c.v); u != c.want || e != c.e {
			t.Errorf("Open(%q, %q, %d, %q) = %q, %d", c.t, c.key, c.n, c.v, u, e)
		}
	}
}

// P2.3: a Mac is signed by its key, over its second part alone.
func TestSigned(t *testing.T) {
	for _, c := range []struct {
		t, key, u string
		want      bool
	}{
		{"m(a1,a2)", "a1", "a2", true}, {"m(h(0,0),l())", "h(0,0)", "l()", true},
		{"m(a1,a2)", "a2", "a1", false}, {"m(a1,a2)", "a1", "a1", false}, {"m(a1,a2)", "a2", "a2", false}, {"m(a1,a2)", "", "", false},
		{"d(a1,a2)", "a1", "a2", false}, {"l(a1,a2)", "a1", "a2", false}, {"", "", "", false}, {"m(a1,a2", "a1", "a2", false}, {"m(y,z)", "y", "z", false},
	} {
		if term.Signed(c.t, c.key, c.u) != c.want {
			t.Errorf("Signed(%q, %q, %q) isn't %v", c.t, c.key, c.u, c.want)
		}
	}
}

// P2.4: terms of terms have the parts that they were made of.
func TestBack(t *testing.T) {
	had := []string{"0", "a3", "n5", "x0102"}
	for i := 0; i < 300; i++ {
		one, two, three := had[i%len(had)], had[i*7%len(had)], had[i*13%len(had)]
		kind, n := term.Pub+i%7, uint64(i%3+1)
		l := [][]string{{one}, {one, two}, {one, two, three}, {one, two}, {one, two}, {one, two, three}, {three, one}}[i%7]
		s := term.Make(kind, n, nil, l...)
		if kind == term.Dh && l[0] > l[1] {
			l = []string{l[1], l[0]}
		}
		if term.Kind(s) != kind || !same(term.Parts(s), l) {
			t.Fatalf("%q has the parts %q", s, term.Parts(s))
		}
		if m, ok := term.Value(s); (kind == term.Kdf || kind == term.Seal) && (m != n || !ok) {
			t.Fatalf("%q has the number %d", s, m)
		}
		if len(s) < 200 {
			had = append(had, s)
		}
	}
	if b, ok := term.Bytes("x" + num.Hex([]byte("snicket"))); !ok || string(b) != "snicket" {
		t.Error("bytes don't come back")
	}
}
