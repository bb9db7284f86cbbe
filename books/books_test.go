package books_test

import (
	"math"
	"slices"
	"strings"
	"testing"

	"snicket/api"
	"snicket/books"
	"snicket/wire"
	"snicket/world"
)

func taken(at, peer int, b string, now int64) world.Record {
	return world.Record{Kind: world.Taken, At: at, Peer: peer, Bytes: []byte(b), Now: now}
}

func written(at, peer int, b string, now int64) world.Record {
	return world.Record{Kind: world.Written, At: at, Peer: peer, Bytes: []byte(b), Now: now}
}

// P19.1, P19.3: partners, in order, each other's.
func TestMatch(t *testing.T) {
	for i, c := range []struct {
		l    []world.Record
		want []int
	}{
		{nil, nil},
		{[]world.Record{taken(0, 1, "a", 0), written(1, 0, "a", 0)}, []int{1, 0}},
		{[]world.Record{written(1, 0, "a", 0), taken(0, 1, "a", 0)}, []int{-1, -1}},
		{[]world.Record{taken(0, 1, "a", 0), taken(0, 1, "a", 0), written(1, 0, "a", 0), written(1, 0, "a", 0), written(1, 0, "a", 0)}, []int{2, 3, 0, 1, -1}},
		{[]world.Record{taken(0, 1, "a", 0), written(1, 0, "a", 0), taken(0, 1, "a", 0), written(1, 0, "a", 0)}, []int{1, 0, 3, 2}},
		{[]world.Record{taken(0, 1, "a", 9), written(0, 1, "a", 0), written(1, 0, "b", 0), written(1, 2, "a", 0), written(2, 0, "a", 0), written(1, 0, "a", 0)}, []int{5, -1, -1, -1, -1, 0}},
		{[]world.Record{taken(0, 1, "", 0), taken(1, 0, "a", 0), written(1, 0, "a", 0), written(1, 0, "", 0), written(0, 1, "a", 0)}, []int{3, 4, -1, 0, 1}},
		{[]world.Record{{Kind: 3, At: 0, Peer: 1}, {Kind: 0, At: 0, Peer: 1}, written(1, 0, "", 0), {Kind: -1}, taken(-5, math.MaxInt, "a", 0), written(math.MaxInt, -5, "a", 0)}, []int{-1, -1, -1, -1, 5, 4}},
		{[]world.Record{taken(1, 1, "a", 0), written(1, 1, "a", 0)}, []int{1, 0}},
		{[]world.Record{taken(0, 1, "ab", 0), written(1, 0, "a", 0), written(1, 0, "ab\x00", 0)}, []int{-1, -1, -1}},
	} {
		got := books.Match(c.l)
		if !slices.Equal(got, c.want) {
			t.Errorf("%d: %v", i, got)
		}
		for a, b := range got {
			if b >= 0 && got[b] != a {
				t.Errorf("%d: %d and %d aren't each other's", i, a, b)
			}
		}
	}
}

// P19.1: what has no partner.
func TestStrange(t *testing.T) {
	l := []world.Record{
		written(1, 0, "x", 0), taken(0, 1, "x", 0), taken(0, 1, "y", 0), {Kind: 5}, taken(0, 1, "x", 0), written(1, 0, "x", 0), taken(0, 2, "z", 0), written(2, 0, "w", 0), written(1, 0, "x", 0), written(1, 0, "x", 0),
	}
	if got := books.Strange(l); !slices.Equal(got, []int{0, 7, 9}) {
		t.Error(got)
	}
	if got := books.Lost(l); !slices.Equal(got, []int{2, 6}) {
		t.Error(got)
	}
	if len(books.Strange(nil)) != 0 || len(books.Lost(nil)) != 0 || len(books.Match(nil)) != 0 {
		t.Error("no records have something")
	}
	l = []world.Record{taken(0, 1, "a", 0), taken(0, 1, "a", 0), written(1, 0, "a", 0), written(1, 0, "a", 0), written(1, 0, "a", 0)}
	if got := books.Strange(l); !slices.Equal(got, []int{4}) {
		t.Error(got)
	}
}

// P19.1: the slowest one.
func TestSlowest(t *testing.T) {
	for i, c := range []struct {
		l    []world.Record
		want int64
		ok   bool
	}{
		{nil, 0, false}, {[]world.Record{taken(0, 1, "a", 5), written(1, 0, "b", 90)}, 0, false},
		{[]world.Record{taken(0, 1, "a", 5), written(1, 0, "a", 5)}, 0, true}, {[]world.Record{taken(0, 1, "a", 9), written(1, 0, "a", 5)}, -4, true},
		{[]world.Record{taken(0, 1, "a", 1), taken(0, 1, "b", 2), written(1, 0, "b", 9), written(1, 0, "a", 7), written(1, 0, "a", 99)}, 7, true},
		{[]world.Record{taken(0, 1, "a", 1), taken(0, 1, "a", 8), written(1, 0, "a", 9), written(1, 0, "a", 10)}, 8, true},
		{[]world.Record{taken(0, 1, "a", 9), written(1, 0, "a", 5), taken(0, 1, "a", 9), written(1, 0, "a", 2)}, -4, true},
		{[]world.Record{taken(0, 1, "a", math.MinInt64), written(1, 0, "a", math.MaxInt64)}, -1, true},
	} {
		if got, ok := books.Slowest(c.l); got != c.want || ok != c.ok {
			t.Errorf("%d: %d, %v", i, got, ok)
		}
	}
}

// P19.1: what goes along.
func TestFlow(t *testing.T) {
	l := []world.Record{taken(0, 1, "abc", 0), taken(0, 1, "a", 0), written(1, 0, "xy", 0), written(1, 0, "abc", 0), written(0, 1, "qqqqqqq", 0), taken(1, 0, "q", 0), taken(0, 2, "q", 0), written(2, 0, "q", 0), {Kind: 3, At: 0, Peer: 1, Bytes: []byte("zz")}, {Kind: 0, At: 1, Peer: 0, Bytes: []byte("zz")}}
	for _, c := range [][5]int{{0, 1, 2, 2, 5}, {1, 0, 1, 1, 7}, {0, 2, 1, 1, 1}, {2, 0, 0, 0, 0}, {0, 0, 0, 0, 0}, {-1, math.MaxInt, 0, 0, 0}} {
		if a, b, n := books.Flow(l, c[0], c[1]); a != c[2] || b != c[3] || n != c[4] {
			t.Error(c, a, b, n)
		}
	}
	if a, b, n := books.Flow(nil, 0, 1); a+b+n != 0 {
		t.Error(a, b, n)
	}
}

// forged is a world in which 1 writes a packet of 0 that 0 didn't take; the secret
// of tell was revealed at that time.
func forged(t *testing.T, tell int, ahead, behind int) *world.World {
	t.Helper()
	w, _ := world.New(3, "")
	run := func(l ...world.Act) {
		for _, a := range l {
			if e := w.Do(a); e != api.Fine && e != api.Wait {
				t.Fatal(a, e)
			}
		}
	}
	run(world.Act{Kind: world.Tun, At: 0, N: 1, Bytes: []byte{7}})
	for i := range 3 {
		run(world.Act{Kind: world.Deliver, N: i})
	}
	if !books.Sound(w) {
		t.Error("a world in which nobody forged isn't sound")
	}
	d, _ := w.Air().At(2)
	m, _ := wire.Read(d.Bytes)
	m.Counter, m.Data = 9, "s(9"+strings.TrimPrefix(m.Data, "s(0")
	b, _ := wire.Print(m)
	w.Air().Tell("a1", "a1000") // the listener came to it by itself
	for range ahead {
		run(world.Act{Kind: world.Wait, N: 1})
	}
	if tell >= 0 && behind == 0 {
		run(world.Act{Kind: world.Reveal, At: tell})
	}
	run(world.Act{Kind: world.Forge, At: 1, From: 1, Bytes: b})
	for range behind {
		run(world.Act{Kind: world.Wait, N: 1})
	}
	if tell >= 0 && behind > 0 {
		run(world.Act{Kind: world.Reveal, At: tell})
	}
	return w
}

// P19.2: what is strange counts, unless a secret was revealed.
func TestSound(t *testing.T) {
	if !books.Sound(nil) {
		t.Error("no world isn't sound")
	}
	w, _ := world.New(2, "")
	if !books.Sound(w) {
		t.Error("a new world isn't sound")
	}
	for _, c := range []struct {
		tell, ahead, behind int
		want                bool
	}{{-1, 0, 0, false}, {0, 0, 0, true}, {1, 0, 0, true}, {2, 0, 0, false}, {0, 5, 0, true}, {0, 0, 1, false}, {1, 3, 1, false}} {
		if got := books.Sound(forged(t, c.tell, c.ahead, c.behind)); got != c.want {
			t.Error(c, got)
		}
	}
}

// R4: what is handed in stays as it is.
func TestOwn(t *testing.T) {
	l := []world.Record{taken(0, 1, "a", 1), written(1, 0, "a", 2)}
	books.Match(l)[0] = 7
	books.Slowest(l)
	if l[0].Now != 1 || string(l[1].Bytes) != "a" || books.Match(l)[0] != 1 {
		t.Error("records were changed")
	}
}
