package reuse_test

import (
	"math"
	"slices"
	"strconv"
	"testing"

	"snicket/air"
	"snicket/api"
	"snicket/reuse"
	"snicket/wire"
	"snicket/world"
)

// data is a Transport's bytes.
func data(t *testing.T, counter uint64, term string) []byte {
	t.Helper()
	b, e := wire.Print(api.Message{Kind: api.Transport, Receiver: 9, Counter: counter, Data: term})
	if e != api.Fine {
		t.Fatal(e)
	}
	return b
}

// seal is a Seal of a byte.
func seal(n uint64, key string, b string) string {
	return "s(" + strconv.FormatUint(n, 10) + "," + key + ",x" + b + ",0)"
}

// of is an air with these datagrams.
func of(l ...[]byte) *air.Air {
	a := air.New()
	for _, b := range l {
		a.Send(1, 2, b)
	}
	return a
}

// P25.1: what is a use.
func TestUses(t *testing.T) {
	init, _ := wire.Print(api.Message{Kind: api.Init, Eph: "0", Static: seal(0, "a1", "00"), Stamp: seal(0, "a1", "01"), Mac1: "0", Mac2: "0"})
	cookie, _ := wire.Print(api.Message{Kind: api.CookieMsg, Nonce: "n1", Cookie: seal(1, "a1", "00")})
	a := of(
		init, data(t, 3, seal(3, "a2", "00")), []byte("bytes"), data(t, 4, "x00"), data(t, 5, seal(7, "h(a1)", "00")), cookie, data(t, 0, "k(1,a1,a2)"), data(t, 0, "m(a1,a2)"),
		data(t, math.MaxUint64, seal(math.MaxUint64, "a2", "00")), data(t, 3, seal(3, "a2", "00")), data(t, 1, "s(1,a3,a4,a5)"), append(data(t, 3, seal(3, "a2", "00")), 0), nil,
	)
	want := []reuse.Use{{1, "a2", 3, true}, {4, "h(a1)", 7, false}, {8, "a2", math.MaxUint64, true}, {9, "a2", 3, true}, {10, "a3", 1, true}}
	if got := reuse.Uses(a); !slices.Equal(got, want) {
		t.Error(got)
	}
	if got := reuse.Keys(a); !slices.Equal(got, []string{"a2", "a3", "h(a1)"}) {
		t.Error(got)
	}
	for _, c := range []struct {
		key  string
		want uint64
		ok   bool
	}{{"a2", math.MaxUint64, true}, {"a3", 1, true}, {"h(a1)", 7, true}, {"a1", 0, false}, {"", 0, false}, {"a", 0, false}} {
		if n, ok := reuse.Most(a, c.key); n != c.want || ok != c.ok {
			t.Error(c, n, ok)
		}
	}
	if n, ok := reuse.Most(of(data(t, 0, seal(0, "a1", "00"))), "a1"); n != 0 || !ok {
		t.Error(n, ok)
	}
	if got := reuse.Keys(of(data(t, 0, seal(0, "a9", "00")), data(t, 0, seal(0, "a10", "00")), data(t, 1, seal(1, "a9", "00")))); !slices.Equal(got, []string{"a10", "a9"}) {
		t.Error(got)
	}
}

// P25.1: which uses clash.
func TestClashes(t *testing.T) {
	one, two := data(t, 1, seal(1, "a1", "01")), data(t, 1, seal(1, "a1", "02"))
	for i, c := range []struct {
		l    [][]byte
		want []reuse.Clash
	}{
		{nil, nil}, {[][]byte{one}, nil}, {[][]byte{one, one, one}, nil},
		{[][]byte{one, two}, []reuse.Clash{{0, 1}}},
		{[][]byte{one, two, one, two}, []reuse.Clash{{0, 1}, {0, 3}, {1, 2}, {2, 3}}},
		{[][]byte{one, data(t, 2, seal(2, "a1", "02")), data(t, 1, seal(1, "a2", "02"))}, nil},
		{[][]byte{one, data(t, 7, seal(1, "a1", "01"))}, nil}, // the same Data, sent with another counter
		{[][]byte{one, data(t, 7, seal(1, "a1", "02"))}, []reuse.Clash{{0, 1}}},
		{[][]byte{one, data(t, 1, "s(1,a1,x01,n0)"), data(t, 1, "s(1,a1,a4,0)")}, []reuse.Clash{{0, 1}, {0, 2}, {1, 2}}},
		{[][]byte{two, data(t, 4, seal(4, "a9", "01")), one, data(t, 4, seal(4, "a9", "02")), two, nil, data(t, 4, seal(4, "a9", "01"))}, []reuse.Clash{{0, 2}, {1, 3}, {2, 4}, {3, 6}}},
		{[][]byte{data(t, 1, "m(a1,x01)"), data(t, 1, "m(a1,x02)"), data(t, 1, "k(1,a1,x01)"), data(t, 1, "k(1,a1,x02)")}, nil},
	} {
		if got := reuse.Clashes(of(c.l...)); !slices.Equal(got, c.want) {
			t.Error(i, got)
		}
	}
}

// P25.2: which worlds are clean.
func TestClean(t *testing.T) {
	if !reuse.Clean(nil) || len(reuse.Uses(nil))+len(reuse.Keys(nil))+len(reuse.Clashes(nil)) != 0 {
		t.Error("nothing isn't clean")
	}
	if n, ok := reuse.Most(nil, "a1"); n != 0 || ok {
		t.Error(n, ok)
	}
	for i, c := range []struct {
		l    [][]byte
		want bool
	}{
		{nil, true}, {[][]byte{data(t, 1, seal(1, "a1", "01")), data(t, 1, seal(1, "a1", "01"))}, true}, {[][]byte{data(t, 1, seal(1, "a1", "01")), data(t, 1, seal(1, "a1", "02"))}, false},
		{[][]byte{data(t, 1, seal(2, "a1", "01"))}, false}, {[][]byte{data(t, api.MaxCount, seal(api.MaxCount, "a1", "01"))}, false}, {[][]byte{data(t, api.MaxCount-1, seal(api.MaxCount-1, "a1", "01"))}, true}, {[][]byte{data(t, 1, "x00"), []byte("bytes")}, true},
	} {
		w, _ := world.New(2, "")
		for _, b := range c.l {
			w.Air().Send(1, 2, b)
		}
		if got := reuse.Clean(w); got != c.want {
			t.Error(i, got)
		}
	}
}

// P25.3: whatever is done in a world, it is clean.
func TestAlways(t *testing.T) {
	seed := uint64(9)
	next := func(n int) int {
		seed = seed*6364136223846793005 + 1442695040888963407
		return int(seed>>33) % n
	}
	for range 12 {
		w, _ := world.New(3, "")
		for range 150 {
			a := world.Act{Kind: 1 + next(8), At: next(3), N: next(w.Air().Len() + 1), From: 1 + next(9), Bytes: []byte{byte(next(3))}}
			if a.Kind == world.Tun {
				a.N = next(3)
			}
			w.Do(a)
			if next(20) == 0 {
				w.Device(next(3)).Skip(next(2), []uint64{5, 3000, api.MaxCount - 1, math.MaxUint64}[next(4)])
			}
		}
		if !reuse.Clean(w) {
			t.Fatal(reuse.Clashes(w.Air()))
		}
		for _, key := range reuse.Keys(w.Air()) {
			if n, ok := reuse.Most(w.Air(), key); !ok || n >= api.MaxCount {
				t.Error(key, n)
			}
		}
	}
}
