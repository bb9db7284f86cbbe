package trie_test

import (
	"bytes"
	"math"
	"slices"
	"strconv"
	"testing"

	"snicket/addr"
	"snicket/api"
	"snicket/trie"
)

func of(bits int, a ...byte) api.Prefix {
	return api.Prefix{Addr: a, Bits: bits}
}

func read(t *testing.T, s string) api.Prefix {
	t.Helper()
	p, e := addr.ReadPrefix(s)
	if e != api.Fine {
		t.Fatal(s, e)
	}
	return p
}

func text(p api.Prefix) string {
	s, _ := addr.PrintPrefix(p)
	return s
}

// told is rows as texts.
func told(t *trie.Table) []string {
	var out []string
	for _, r := range t.Rows() {
		out = append(out, text(r.Prefix)+" "+strconv.Itoa(r.Owner))
	}
	return out
}

func owner(t *testing.T, table *trie.Table, a []byte, want int, is bool) {
	t.Helper()
	if o, ok := table.Owner(a); o != want || ok != is {
		t.Errorf("the owner of %v is %d, %v", a, o, ok)
	}
}

// P8.1: the prefix with the most bits counts.
func TestOwner(t *testing.T) {
	table := trie.New()
	owner(t, table, []byte{10, 0, 0, 9}, 0, false)
	if table.Put(of(8, 10, 0, 0, 0), 1) != api.Fine || table.Put(of(24, 10, 0, 0, 77), 2) != api.Fine {
		t.Fatal("prefixes aren't put")
	}
	owner(t, table, []byte{10, 0, 0, 9}, 2, true)
	owner(t, table, []byte{10, 0, 1, 9}, 1, true)
	owner(t, table, []byte{11, 0, 0, 9}, 0, false)
	owner(t, table, []byte{10, 0, 0}, 0, false)
	owner(t, table, nil, 0, false)
	owner(t, table, make([]byte, 5), 0, false)
	owner(t, table, append([]byte{10}, make([]byte, 15)...), 0, false)
	table.Put(of(32, 10, 0, 0, 9), 0)
	owner(t, table, []byte{10, 0, 0, 9}, 0, true)
	owner(t, table, []byte{10, 0, 0, 8}, 2, true)
	table.Put(of(0, 1, 2, 3, 4), 7)
	owner(t, table, []byte{255, 0, 0, 9}, 7, true)
	owner(t, table, make([]byte, 16), 0, false)
	six := make([]byte, 16)
	table.Put(of(0, six...), math.MaxInt)
	owner(t, table, six, math.MaxInt, true)
	owner(t, table, make([]byte, 4), 7, true)
	six[15] = 3
	table.Put(of(128, six...), 4)
	owner(t, table, six, 4, true)
	six[15] = 2
	owner(t, table, six, math.MaxInt, true)
	table.Put(of(8, 10, 9, 9, 9), 5)
	owner(t, table, []byte{10, 0, 1, 9}, 5, true)
	owner(t, table, []byte{10, 0, 0, 7}, 2, true)
	if n := len(table.Rows()); n != 6 {
		t.Error("there are", n)
	}
}

// P8.1: what can't be put, in the order of the errors, changes nothing.
func TestPut(t *testing.T) {
	table := trie.New()
	for _, p := range []api.Prefix{{}, of(33, 1, 2, 3, 4), of(-1, 1, 2, 3, 4), of(0, 1, 2, 3), of(129, make([]byte, 16)...)} {
		if table.Put(p, 1) != api.Form || table.Put(p, -1) != api.Form || table.Del(p) {
			t.Error(p, "is put")
		}
	}
	if table.Put(of(8, 1, 2, 3, 4), -1) != api.Arg || table.Put(of(8, 1, 2, 3, 4), math.MinInt) != api.Arg || len(table.Rows()) != 0 {
		t.Error("an owner below 0")
	}
	a := []byte{1, 2, 3, 4}
	table.Put(api.Prefix{Addr: a, Bits: 24}, 3)
	a[0] = 9
	owner(t, table, []byte{1, 2, 3, 9}, 3, true)
	table.Rows()[0].Prefix.Addr[0] = 9
	table.Of(3)[0].Addr[0] = 9
	owner(t, table, []byte{1, 2, 3, 9}, 3, true)
	if !bytes.Equal(a, []byte{9, 2, 3, 4}) {
		t.Error("what was handed in was changed")
	}
}

// P8.1: what goes leaves all others.
func TestDel(t *testing.T) {
	table := trie.New()
	l := []string{"0.0.0.0/0", "10.0.0.0/8", "10.0.0.0/9", "10.0.0.0/24", "10.0.0.0/32", "10.128.0.0/9", "128.0.0.0/1"}
	for i, s := range l {
		table.Put(read(t, s), i)
	}
	for _, p := range []api.Prefix{of(7, 10, 0, 0, 0), of(10, 10, 0, 0, 0), of(32, 10, 0, 0, 1), of(1, 0, 0, 0, 0), of(0, make([]byte, 16)...), of(25, 10, 0, 0, 0)} {
		if table.Del(p) {
			t.Error(p, "was there")
		}
	}
	if !table.Del(of(8, 10, 3, 3, 3)) || table.Del(of(8, 10, 0, 0, 0)) {
		t.Error("a prefix goes once, by its addresses")
	}
	owner(t, table, []byte{10, 200, 0, 0}, 5, true)
	owner(t, table, []byte{10, 0, 0, 0}, 4, true)
	if !table.Del(read(t, "10.0.0.0/32")) {
		t.Error("it isn't there")
	}
	owner(t, table, []byte{10, 0, 0, 0}, 3, true)
	if !table.Del(read(t, "0.0.0.0/0")) {
		t.Error("it isn't there")
	}
	owner(t, table, []byte{9, 0, 0, 0}, 0, false)
	if got := told(table); !slices.Equal(got, []string{"10.0.0.0/9 2", "10.0.0.0/24 3", "10.128.0.0/9 5", "128.0.0.0/1 6"}) {
		t.Error(got)
	}
	table.Put(read(t, "10.0.0.0/8"), 8)
	owner(t, table, []byte{10, 128, 0, 0}, 5, true)
	table.Del(read(t, "10.128.0.0/9"))
	owner(t, table, []byte{10, 128, 0, 0}, 8, true)
}

// P8.1, P8.2: by owners.
func TestDrop(t *testing.T) {
	table := trie.New()
	for i, s := range []string{"10.0.0.0/8", "11.0.0.0/8", "10.0.0.0/16", "11.0.0.0/9", "9.0.0.0/8"} {
		table.Put(read(t, s), i%2)
	}
	table.Put(api.Prefix{Addr: make([]byte, 16), Bits: 3}, 1)
	if l := table.Of(1); len(l) != 3 || text(l[0]) != "11.0.0.0/8" || text(l[1]) != "11.0.0.0/9" || l[2].Bits != 3 {
		t.Error(l)
	}
	if l := table.Of(0); len(l) != 3 || text(l[0]) != "9.0.0.0/8" || text(l[1]) != "10.0.0.0/8" || text(l[2]) != "10.0.0.0/16" {
		t.Error(l)
	}
	if len(table.Of(2)) != 0 || len(table.Of(-1)) != 0 || table.Drop(2) != 0 || table.Drop(-1) != 0 || len(table.Rows()) != 6 {
		t.Error("nobody owns something")
	}
	if table.Drop(1) != 3 || table.Drop(1) != 0 || len(table.Of(1)) != 0 || len(table.Rows()) != 3 {
		t.Error("it isn't dropped")
	}
	owner(t, table, []byte{11, 0, 0, 0}, 0, false)
	owner(t, table, []byte{10, 0, 0, 0}, 0, true)
}

// P8.2: rows in order.
func TestRows(t *testing.T) {
	table := trie.New()
	want := []string{
		"0.0.0.0/0 1", "0.0.0.0/1 2", "0.0.0.0/32 3", "0.0.0.1/32 4", "10.0.0.0/8 5", "10.0.0.0/24 6", "10.0.1.0/24 7", "128.0.0.0/1 8", "255.255.255.255/32 9",
		"0000:0000:0000:0000:0000:0000:0000:0000/0 10", "0000:0000:0000:0000:0000:0000:0000:0000/128 11", "0000:0000:0000:0000:0000:0000:0000:0001/128 12", "0a00:0000:0000:0000:0000:0000:0000:0000/7 13", "ff00:0000:0000:0000:0000:0000:0000:0000/8 14",
	}
	for i := range want {
		s := want[(i*5+3)%len(want)]
		at := bytes.IndexByte([]byte(s), ' ')
		n, _ := strconv.Atoi(s[at+1:])
		table.Put(read(t, s[:at]), n)
	}
	if got := told(table); !slices.Equal(got, want) {
		t.Error(got)
	}
}

// P8.1, P8.2: long rows of puts and dels, against a plain list.
func TestModel(t *testing.T) {
	type row struct {
		p api.Prefix
		o int
	}
	seed := uint64(11)
	next := func(n int) int {
		seed = seed*6364136223846793005 + 1442695040888963407
		return int(seed>>33) % n
	}
	address := func() []byte {
		a := make([]byte, 4+12*next(2))
		a[0], a[1], a[len(a)-1] = byte(next(2)*128), byte(next(4)), byte(next(3))
		return a
	}
	table, model := trie.New(), map[string]row{}
	for i := 0; i < 6000; i++ {
		a := address()
		p, _ := addr.Plain(api.Prefix{Addr: a, Bits: []int{0, 1, 8, 15, 16, 8*len(a) - 1, 8 * len(a)}[next(7)]})
		switch next(5) {
		case 0, 1:
			o := next(5)
			table.Put(p, o)
			model[text(p)] = row{p, o}
		case 2:
			_, was := model[text(p)]
			delete(model, text(p))
			if table.Del(p) != was {
				t.Fatal(text(p), was)
			}
		case 3:
			if next(30) == 0 {
				o, n := next(6), 0
				for s, r := range model {
					if r.o == o {
						n++
						delete(model, s)
					}
				}
				if table.Drop(o) != n {
					t.Fatal("dropped are not", n)
				}
			}
		}
		best, want := -1, 0
		for _, r := range model {
			if addr.Has(r.p, a) && r.p.Bits > best {
				best, want = r.p.Bits, r.o
			}
		}
		owner(t, table, a, want, best >= 0)
		if len(table.Rows()) != len(model) || t.Failed() {
			t.Fatal("there are", len(table.Rows()), "not", len(model))
		}
	}
}

// R1: a nil table.
func TestNil(t *testing.T) {
	var table *trie.Table
	owner(t, table, []byte{1, 2, 3, 4}, 0, false)
	if table.Put(of(0, 1, 2, 3, 4), 1) != api.Nil || table.Put(api.Prefix{}, -1) != api.Nil || table.Del(of(0, 1, 2, 3, 4)) || table.Drop(1) != 0 || len(table.Rows()) != 0 || len(table.Of(0)) != 0 {
		t.Error("a nil table tells something")
	}
}
