package dump_test

import (
	"math"
	"slices"
	"testing"

	"snicket/air"
	"snicket/api"
	"snicket/dump"
	"snicket/wire"
)

func print(t *testing.T, m api.Message) []byte {
	t.Helper()
	b, e := wire.Print(m)
	if e != api.Fine {
		t.Fatal(e)
	}
	return b
}

func data(t *testing.T, receiver uint32, counter uint64, data string) []byte {
	t.Helper()
	return print(t, api.Message{Kind: api.Transport, Receiver: receiver, Counter: counter, Data: data})
}

func start(t *testing.T) []byte {
	t.Helper()
	return print(t, api.Message{Kind: api.Init, Sender: 1000, Eph: "0", Static: "0", Stamp: "0", Mac1: "0", Mac2: "0"})
}

func answer(t *testing.T) []byte {
	t.Helper()
	return print(t, api.Message{Kind: api.Response, Sender: 2000, Receiver: 1000, Eph: "0", Empty: "0", Mac1: "0", Mac2: "0"})
}

func cookie(t *testing.T) []byte {
	t.Helper()
	return print(t, api.Message{Kind: api.CookieMsg, Receiver: 77, Nonce: "0", Cookie: "0"})
}

// P24.1: the line of each kind.
func TestLine(t *testing.T) {
	for _, c := range []struct {
		i    int
		d    air.Datagram
		want string
		e    api.Code
	}{
		{0, air.Datagram{From: 1, To: 2, Bytes: start(t)}, "0 1 2 0 init 1000", api.Fine},
		{12, air.Datagram{From: 2, To: 1, Bytes: answer(t), Delivered: 3}, "12 2 1 3 response 2000 1000", api.Fine},
		{1, air.Datagram{From: 2, To: 1, Bytes: cookie(t)}, "1 2 1 0 cookie 77", api.Fine},
		{1, air.Datagram{From: 2, To: 1, Bytes: data(t, 9, math.MaxUint64, "s(1,a1,x0102,0)")}, "1 2 1 0 data 9 18446744073709551615 2", api.Fine},
		{1, air.Datagram{From: 2, To: 1, Bytes: data(t, 9, 0, "s(1,a1,x,0)")}, "1 2 1 0 data 9 0 0", api.Fine},
		{1, air.Datagram{From: 2, To: 1, Bytes: data(t, 9, 0, "s(1,a1,a2,0)")}, "1 2 1 0 data 9 0 -", api.Fine},
		{1, air.Datagram{From: 2, To: 1, Bytes: data(t, 9, 0, "s(1,a1,l(x00),x00)")}, "1 2 1 0 data 9 0 -", api.Fine},
		{1, air.Datagram{From: 2, To: 1, Bytes: data(t, 9, 0, "x0102")}, "1 2 1 0 data 9 0 -", api.Fine},
		{1, air.Datagram{From: 2, To: 1, Bytes: data(t, 9, 0, "k(1,a1,x0102)")}, "1 2 1 0 data 9 0 -", api.Fine},
		{1, air.Datagram{From: 2, To: 1, Bytes: data(t, 9, 0, "m(a1,x0102)")}, "1 2 1 0 data 9 0 -", api.Fine},
		{0, air.Datagram{}, "0 0 0 0 raw 0", api.Fine},
		{math.MaxInt, air.Datagram{From: math.MaxInt, To: 3, Bytes: append(start(t), 0), Delivered: 9}, "9223372036854775807 9223372036854775807 3 9 raw 24", api.Fine},
		{-1, air.Datagram{}, "", api.Arg}, {0, air.Datagram{From: -1}, "", api.Arg}, {0, air.Datagram{To: -1}, "", api.Arg}, {0, air.Datagram{Delivered: -1, Bytes: start(t)}, "", api.Arg}, {math.MinInt, air.Datagram{From: math.MinInt}, "", api.Arg},
	} {
		if got, e := dump.Line(c.i, c.d); got != c.want || e != c.e {
			t.Errorf("%q, %d, not %q", got, e, c.want)
		}
	}
}

// some is an air with datagrams of all kinds.
func some(t *testing.T) *air.Air {
	t.Helper()
	a := air.New()
	for _, c := range []struct {
		from, to int
		b        []byte
	}{{1, 2, start(t)}, {2, 1, answer(t)}, {1, 2, data(t, 5, 0, "s(0,a1,x07,0)")}, {1, 3, []byte("bytes")}, {3, 1, data(t, 5, 1, "0")}, {1, 2, data(t, 6, 0, "0")}, {2, 3, cookie(t)}, {1, 2, data(t, 5, 0, "0")}, {1, 2, nil}} {
		a.Send(c.from, c.to, c.b)
	}
	for _, i := range []int{0, 0, 3, 7} {
		a.Deliver(i)
	}
	return a
}

// P24.1: what goes by.
func TestFilter(t *testing.T) {
	a := some(t)
	for _, c := range []struct {
		f    dump.Filter
		want []int
	}{
		{dump.Filter{}, []int{0, 1, 2, 3, 4, 5, 6, 7, 8}}, {dump.Filter{From: 1}, []int{0, 2, 3, 5, 7, 8}}, {dump.Filter{To: 1}, []int{1, 4}}, {dump.Filter{From: 1, To: 3}, []int{3}}, {dump.Filter{From: 9}, nil}, {dump.Filter{To: -1}, nil},
		{dump.Filter{Kind: api.Init}, []int{0}}, {dump.Filter{Kind: api.Response}, []int{1}}, {dump.Filter{Kind: api.CookieMsg}, []int{6}}, {dump.Filter{Kind: api.Transport}, []int{2, 4, 5, 7}}, {dump.Filter{Kind: 5}, []int{3, 8}}, {dump.Filter{Kind: 6}, nil}, {dump.Filter{Kind: -1}, nil}, {dump.Filter{Kind: math.MaxInt}, nil},
		{dump.Filter{New: true}, []int{1, 2, 4, 5, 6, 8}}, {dump.Filter{From: 1, Kind: api.Transport, New: true}, []int{2, 5}}, {dump.Filter{Kind: 5, New: true}, []int{8}}, {dump.Filter{From: 1, To: 2, Kind: api.Init, New: true}, nil},
	} {
		if got := dump.Numbers(a, c.f); !slices.Equal(got, c.want) {
			t.Error(c.f, got)
		}
		var want []string
		for _, i := range c.want {
			d, _ := a.At(i)
			line, _ := dump.Line(i, d)
			want = append(want, line)
		}
		if got := dump.Lines(a, c.f); !slices.Equal(got, want) {
			t.Error(c.f, got)
		}
	}
	if got := dump.Lines(a, dump.Filter{From: 1, Kind: api.Transport}); !slices.Equal(got, []string{"2 1 2 0 data 5 0 1", "5 1 2 0 data 6 0 -", "7 1 2 1 data 5 0 -"}) {
		t.Error(got)
	}
}

// P24.2: how many of each kind, and the first one that is meant.
func TestKinds(t *testing.T) {
	a := some(t)
	if got := dump.Kinds(a); got != [6]int{9, 1, 1, 1, 4, 2} {
		t.Error(got)
	}
	for _, c := range []struct {
		receiver uint32
		counter  uint64
		at       int
		ok       bool
	}{{5, 0, 2, true}, {5, 1, 4, true}, {6, 0, 5, true}, {6, 1, 0, false}, {77, 0, 0, false}, {1000, 0, 0, false}, {0, 0, 0, false}, {5, math.MaxUint64, 0, false}} {
		if at, ok := dump.Find(a, c.receiver, c.counter); at != c.at || ok != c.ok {
			t.Error(c, at, ok)
		}
	}
	b := air.New()
	b.Send(1, 2, data(t, 0, 0, "0"))
	if at, ok := dump.Find(b, 0, 0); at != 0 || !ok {
		t.Error(at, ok)
	}
	if dump.Kinds(air.New()) != [6]int{} || a.Len() != 9 {
		t.Error("an empty air has kinds")
	}
}

// R1: no air.
func TestNil(t *testing.T) {
	at, ok := dump.Find(nil, 0, 0)
	if len(dump.Lines(nil, dump.Filter{})) != 0 || len(dump.Numbers(nil, dump.Filter{})) != 0 || dump.Kinds(nil) != [6]int{} || at != 0 || ok {
		t.Error("no air tells something")
	}
}
