package know_test

import (
	"slices"
	"strconv"
	"strings"
	"testing"

	"snicket/api"
	"snicket/know"
	"snicket/term"
)

func with(t *testing.T, l ...string) *know.Know {
	t.Helper()
	k := know.New()
	if e := k.Add(l...); e != api.Fine {
		t.Fatalf("Add(%q) = %d", l, e)
	}
	return k
}

func can(t *testing.T, k *know.Know, want bool, l ...string) {
	t.Helper()
	for _, s := range l {
		if k.Can(s) != want {
			t.Errorf("Can(%q) isn't %v", s, want)
		}
	}
}

// P3.1: nothing is had, and what is free of secrets can be made.
func TestNew(t *testing.T) {
	k := know.New()
	if k.Len() != 0 || len(k.Atoms()) != 0 || k.Has("0") || k.Has("") {
		t.Error("something is had at first")
	}
	can(t, k, true, "0", "n7", "x", "x0102", "l()", "p(0)", "d(0,n1)", "h(0,n1)", "k(1,0,0)", "m(n1,x)", "s(7,0,0,0)", "l(0,p(n2))")
	can(t, k, false, "a1", "p(a1)", "d(0,a1)", "h(0,a1)", "k(2,0,a1)", "m(a1,0)", "m(0,a1)", "s(1,a1,0,0)", "s(1,0,a1,0)", "s(1,0,0,a1)", "l(a1)", "", "y", "p(0", "d(n1,0)")
}

// P3.1: who has a part of each kind makes the whole, and not the part of the whole.
func TestMade(t *testing.T) {
	k := with(t, "a1")
	can(t, k, true, "a1", "p(a1)", "h(a1)", "h(0,a1,p(a1))", "k(3,a1,n1)", "m(a1,a1)", "s(1,a1,a1,a1)", "l(a1,a1)", "d(0,a1)", "d(a1,a1)", "d(a1,h(a1))")
	can(t, k, false, "a2", "a11", "h(a1,a2)", "l(a1,a2)", "k(1,a1,a2)", "m(a1,a2)", "d(a1,a2)", "d(a1,p(a2))")
	k = with(t, "p(a1)", "h(a2)", "k(1,a3,0)", "m(a4,a5)", "d(a6,a7)")
	can(t, k, true, "p(a1)", "h(a2)", "l(h(a2),d(a6,a7))", "m(a4,a5)", "h(m(a4,a5))")
	can(t, k, false, "a1", "a2", "a3", "a4", "a5", "a6", "a7", "k(2,a3,0)", "h(a2,0)", "p(a6)")
}

// P3.1: a Dh is made by a secret and the other one's Pub, either way.
func TestDh(t *testing.T) {
	can(t, with(t, "p(a1)", "a2"), true, "d(a1,a2)", "p(a2)")
	can(t, with(t, "p(a1)", "a2"), false, "a1", "d(a1,a3)", "d(a1,a1)")
	can(t, with(t, "p(a2)", "a1"), true, "d(a1,a2)")
	can(t, with(t, "p(a1)", "p(a2)"), false, "d(a1,a2)")
	can(t, with(t, "a1"), false, "d(a1,a2)")
	can(t, with(t, "a1", "a2"), true, "d(a1,a2)")
	can(t, with(t, "p(h(a1))"), true, "d(0,h(a1))")
	can(t, with(t, "p(d(a1,a2))", "a3"), true, "d(a3,d(a1,a2))")
}

// P3.1: what is had grows by lists, and by seals whose key can be made.
func TestGrow(t *testing.T) {
	k := with(t, "l(a1,l(a2,x00),h(a3))")
	for _, s := range []string{"l(a1,l(a2,x00),h(a3))", "a1", "l(a2,x00)", "a2", "x00", "h(a3)"} {
		if !k.Has(s) {
			t.Errorf("%q isn't had", s)
		}
	}
	if k.Has("a3") || k.Len() != 6 || k.Has("0") || k.Has("p(a1)") {
		t.Error("had are", k.Len())
	}
	k = with(t, "s(1,k(1,a1,0),a2,0)", "a1")
	can(t, k, true, "a2")
	if !k.Has("a2") || k.Len() != 3 || k.Has("k(1,a1,0)") {
		t.Error("had are", k.Len())
	}
	k = with(t, "s(1,a1,a2,a3)", "a2", "a3")
	can(t, k, false, "a1")
	k = with(t, "s(9,0,l(a1,a2),a3)")
	can(t, k, true, "a1", "a2")
	can(t, k, false, "a3")
	k = with(t, "s(1,a1,a9,0)", "s(1,a2,a8,0)", "s(1,a3,a7,0)", "a2")
	if k.Has("a9") || !k.Has("a8") || k.Has("a7") || k.Len() != 5 {
		t.Error("another seal was opened")
	}
	k = with(t, "s(1,a1,a2,0)", "s(2,a1,a3,0)", "s(2,a1,a3,n1)")
	if k.Len() != 3 {
		t.Error("a seal is open")
	}
	k.Add("a1")
	if k.Len() != 6 || !k.Has("a3") {
		t.Error("seals by one key aren't all open")
	}
}

// P3.1: seals open one by another, in whatever order they come.
func TestChain(t *testing.T) {
	const n = 60
	forth, back := know.New(), know.New()
	var l []string
	for i := 0; i < n; i++ {
		l = append(l, "s(0,h(a"+strconv.Itoa(i)+"),a"+strconv.Itoa(i+1)+",0)")
	}
	for i := range l {
		forth.Add(l[i])
		back.Add(l[n-1-i])
	}
	if forth.Len() != n || back.Len() != n {
		t.Error("seals open by themselves")
	}
	forth.Add("a0")
	back.Add("a0")
	if forth.Len() != 2*n+1 || back.Len() != 2*n+1 || !back.Can("a60") || !forth.Has("a60") {
		t.Error("had are", forth.Len(), back.Len())
	}
}

// P3.1: a key that comes to be made by any of its parts, or as a whole, opens.
func TestLater(t *testing.T) {
	const seal = "s(0,k(1,d(a1,a2),h(a3,a4)),a9,0)"
	for _, l := range [][]string{
		{"k(1,d(a1,a2),h(a3,a4))"},
		{"d(a1,a2)", "h(a3,a4)"},
		{"h(a3,a4)", "d(a1,a2)"},
		{"a4", "a3", "a2", "p(a1)"},
		{"p(a2)", "a3", "a1", "a4"},
		{"a1", "p(a2)", "l(a4,a3)"},
		{"a1", "a2", "s(0,a2,h(a3,a4),0)"},
		{"s(0,p(a2),l(a1,p(a2)),0)", "h(a3,a4)", "l(p(a2))"},
	} {
		k := with(t, seal)
		for i, s := range l {
			if k.Has("a9") {
				t.Errorf("%q open it", l[:i])
			}
			k.Add(s)
		}
		if !k.Has("a9") {
			t.Errorf("%q don't open it", l)
		}
	}
}

// P3.1: with something that is no term nothing changes.
func TestAdd(t *testing.T) {
	k := know.New()
	for _, l := range [][]string{{""}, {"y"}, {"a1", "a01"}, {"a1", "", "a2"}, {"l(a1", "a1"}} {
		if e := k.Add(l...); e != api.Form || k.Len() != 0 || k.Has("a1") {
			t.Errorf("Add(%q) = %d", l, e)
		}
	}
	if k.Add() != api.Fine || k.Len() != 0 {
		t.Error("none can't be added")
	}
	k.Add("a1", "a1")
	k.Add("a1")
	if k.Len() != 1 {
		t.Error("a term is had twice")
	}
	l := []string{"l(a5)", "a1"}
	k.Add(l...)
	if l[0] != "l(a5)" || l[1] != "a1" {
		t.Error("what was handed in was changed")
	}
}

// P3.1: Atoms that are had, byte by byte.
func TestAtoms(t *testing.T) {
	k := with(t, "a9", "l(a10,p(a3),n4)", "s(0,a10,a100,0)", "s(0,a77,a78,0)", "0", "h(a5)")
	if got := strings.Join(k.Atoms(), " "); got != "a10 a100 a9" {
		t.Error("Atoms are", got)
	}
	for i := range 60 {
		k.Add("a" + strconv.Itoa(1000+i*37%60))
	}
	if got := k.Atoms(); len(got) != 63 || !slices.IsSorted(got) {
		t.Error("Atoms are", got)
	}
	k.Atoms()[0] = "a0"
	if k.Atoms()[0] != "a10" {
		t.Error("what was told is kept")
	}
}

// P3.1: nobody has anything.
func TestNil(t *testing.T) {
	var k *know.Know
	if k.Add("a1") != api.Nil || k.Add("y") != api.Nil || k.Can("0") || k.Has("a1") || k.Len() != 0 || len(k.Atoms()) != 0 {
		t.Error("a nil one tells something")
	}
}

// P3.2: in whatever order, the same; who has more can derive no less; what can be
// derived adds nothing.
func TestOrder(t *testing.T) {
	pool := []string{
		"a1", "p(a2)", "s(0,d(a1,a2),l(a3,h(a4)),0)", "s(1,k(1,a3,h(a4)),a5,0)", "l(s(2,a5,a6,0),p(a7))",
		"s(3,d(a6,a7),s(4,h(a3,a5),a8,0),a9)", "m(a8,0)", "s(0,m(a8,0),a10,0)", "k(2,a9,a1)", "s(0,h(k(2,a9,a1)),p(a11),0)",
	}
	asked := append([]string{"a2", "a3", "a4", "a5", "a6", "a7", "a8", "a9", "a10", "a11", "p(a11)", "d(a1,a11)", "h(a4)", "k(1,a9,a1)", "d(a2,a3)"}, pool...)
	seed := uint32(1)
	for round := 0; round < 40; round++ {
		k, before := know.New(), map[string]bool{}
		order := append([]string(nil), pool...)
		for i := range order {
			seed = seed*1664525 + 1013904223
			j := i + int(seed>>8)%(len(order)-i)
			order[i], order[j] = order[j], order[i]
			k.Add(order[i])
			for _, s := range asked {
				if before[s] && !k.Can(s) {
					t.Fatalf("%q is lost by %q", s, order[i])
				}
				before[s] = k.Can(s)
			}
		}
		all := with(t, pool...)
		for _, s := range asked {
			if all.Can(s) != k.Can(s) || all.Has(s) != k.Has(s) || all.Len() != k.Len() {
				t.Fatalf("%q isn't alike behind %q", s, order)
			}
		}
	}
	k := with(t, pool...)
	for _, s := range asked {
		if k.Can(s) {
			k.Add(s)
		}
	}
	all := with(t, pool...)
	for _, s := range asked {
		if all.Can(s) != k.Can(s) {
			t.Errorf("%q was made possible by what could be made", s)
		}
	}
}

// R1: long chains of one who knows half of each Dh end soon, and deep terms do.
func TestDeep(t *testing.T) {
	s := "a2"
	for i := 0; i < 200; i++ {
		s = term.Make(term.Dh, 0, nil, "a1", s)
	}
	can(t, with(t, "a1"), false, s)
	can(t, with(t, "a1", "a2"), true, s)
	k := with(t, "a1", "s(0,"+s+",a5,0)")
	k.Add("p(d(a1,a2))")
	if !k.Has("a5") {
		t.Error("a deep key doesn't open")
	}
	deep := strings.Repeat("l(", 3000) + "a1" + strings.Repeat(")", 3000)
	if k = with(t, deep); k.Len() != 3001 || !k.Can(deep) {
		t.Error("had are", k.Len())
	}
}

// Many seals by many keys that stay shut cost no more than they are.
func TestMany(t *testing.T) {
	k := know.New()
	for i := 0; i < 4000; i++ {
		n := strconv.Itoa(i)
		k.Add("s("+n+",k(1,a"+strconv.Itoa(i%500)+",a5000),a"+n+",0)", "p(a"+n+")")
	}
	if k.Len() != 8000 {
		t.Error("had are", k.Len())
	}
	k.Add("a5000")
	if k.Len() != 8001 {
		t.Error("had are", k.Len())
	}
	k.Add("a3")
	if !k.Has("a503") || !k.Has("a3503") || k.Has("a504") {
		t.Error("not all seals by a key are open")
	}
}

// model is what somebody has, as the document's words say it.
type model map[string]bool

func (m model) made(t string) bool {
	if m[t] {
		return true
	}
	p := term.Parts(t)
	switch term.Kind(t) {
	case term.Atom:
		return false
	case term.Dh:
		public := func(x string) bool { return m["p("+x+")"] || m.made(x) }
		return m.made(p[0]) && public(p[1]) || m.made(p[1]) && public(p[0])
	}
	for _, x := range p {
		if !m.made(x) {
			return false
		}
	}
	return true
}

func (m model) add(l ...string) {
	for _, t := range l {
		m[t] = true
	}
	for grown := true; grown; {
		grown = false
		var fresh []string
		for t := range m {
			p := term.Parts(t)
			switch term.Kind(t) {
			case term.List:
				fresh = append(fresh, p...)
			case term.Seal:
				if m.made(p[0]) {
					fresh = append(fresh, p[1])
				}
			}
		}
		for _, t := range fresh {
			grown = grown || !m[t]
			m[t] = true
		}
	}
}

// P3.1: any terms, in any order, against the model.
func TestModel(t *testing.T) {
	seed := uint64(77)
	next := func(n int) int {
		seed = seed*6364136223846793005 + 1442695040888963407
		return int(seed>>33) % n
	}
	var some func(depth int) string
	some = func(depth int) string {
		if depth == 0 || next(5) == 0 {
			return []string{"a1", "a2", "a3", "a4", "a5", "p(a1)", "p(a3)", "0", "n1"}[next(9)]
		}
		kind := []int{term.Pub, term.Dh, term.Dh, term.Hash, term.Kdf, term.Mac, term.Seal, term.Seal, term.Seal, term.List}[next(10)]
		l := []string{some(depth - 1), some(depth - 1), some(depth - 1)}
		count := map[int]int{term.Pub: 1, term.Seal: 3, term.Hash: 1 + next(2), term.List: next(3)}
		n, ok := count[kind]
		if !ok {
			n = 2
		}
		return term.Make(kind, 1, nil, l[:n]...)
	}
	opened := 0
	for range 400 {
		k, m := know.New(), model{}
		for range 9 {
			l := []string{some(3), some(2)}[:1+next(2)]
			if e := k.Add(l...); e != api.Fine {
				t.Fatal(l, e)
			}
			m.add(l...)
			if k.Len() != len(m) {
				t.Fatalf("behind %q had are %d, not %d", l, k.Len(), len(m))
			}
			for range 6 {
				s := some(3)
				if k.Can(s) != m.made(s) || k.Has(s) != m[s] {
					t.Fatalf("%q: %v, %v", s, k.Can(s), k.Has(s))
				}
			}
		}
		for s := range m {
			if !k.Has(s) {
				t.Fatal(s, "isn't had")
			}
			if term.Kind(s) == term.Seal && m[term.Parts(s)[1]] {
				opened++
			}
		}
	}
	if opened < 200 {
		t.Error("too few seals were opened to tell:", opened)
	}
}
