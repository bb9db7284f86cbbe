package air_test

import (
	"bytes"
	"math"
	"slices"
	"testing"

	"snicket/air"
	"snicket/api"
	"snicket/wire"
)

func message(t *testing.T, m api.Message) []byte {
	t.Helper()
	b, e := wire.Print(m)
	if e != api.Fine {
		t.Fatal(e)
	}
	return b
}

func data(t *testing.T, term string) []byte {
	t.Helper()
	return message(t, api.Message{Kind: api.Transport, Receiver: 1, Data: term})
}

// same holds two datagrams against each other.
func same(d air.Datagram, from, to int, b string, delivered int) bool {
	return d.From == from && d.To == to && string(d.Bytes) == b && d.Delivered == delivered
}

// P17.1: what is sent and delivered.
func TestSend(t *testing.T) {
	a := air.New()
	if _, ok := a.At(0); ok || a.Len() != 0 || a.Had() != 0 || len(a.Waiting(2)) != 0 {
		t.Error("something was sent")
	}
	for i, c := range []struct {
		from, to int
		b        string
	}{{1, 2, "one"}, {2, 1, ""}, {math.MaxInt, 2, "three"}, {2, 2, "four"}} {
		if n, e := a.Send(c.from, c.to, []byte(c.b)); n != i || e != api.Fine || a.Len() != i+1 {
			t.Error(n, e)
		}
		if d, ok := a.At(i); !ok || !same(d, c.from, c.to, c.b, 0) {
			t.Error(d, ok)
		}
	}
	for _, c := range [][2]int{{0, 1}, {1, 0}, {-1, 1}, {1, -1}, {math.MinInt, 1}, {0, 0}} {
		if n, e := a.Send(c[0], c[1], data(t, "a1")); n != 0 || e != api.Arg || a.Len() != 4 || a.Had() != 0 {
			t.Error(c, n, e)
		}
	}
	if l := a.Waiting(2); !slices.Equal(l, []int{0, 2, 3}) {
		t.Error(l)
	}
	for want := 1; want <= 3; want++ {
		if d, e := a.Deliver(2); e != api.Fine || !same(d, math.MaxInt, 2, "three", want) {
			t.Error(d, e)
		}
		if d, ok := a.At(2); !ok || d.Delivered != want {
			t.Error(d, ok)
		}
	}
	if l := a.Waiting(2); !slices.Equal(l, []int{0, 3}) || !slices.Equal(a.Waiting(1), []int{1}) || len(a.Waiting(3)) != 0 || len(a.Waiting(0)) != 0 || len(a.Waiting(-1)) != 0 {
		t.Error(l)
	}
	for _, i := range []int{-1, 4, math.MaxInt, math.MinInt} {
		d, ok := a.At(i)
		if ok || !same(d, 0, 0, "", 0) {
			t.Error(i, d)
		}
		if d, e := a.Deliver(i); e != api.None || !same(d, 0, 0, "", 0) {
			t.Error(i, d, e)
		}
	}
}

// P17.2: what the listener has of messages, and of nothing else.
func TestListen(t *testing.T) {
	a := air.New()
	a.Send(1, 2, []byte("no message"))
	a.Send(1, 2, append(data(t, "a9"), 0))
	if a.Had() != 0 || a.Knows("a9") {
		t.Error("bytes that are no message tell something")
	}
	a.Send(1, 2, message(t, api.Message{Kind: api.Init, Sender: 77, Eph: "p(a1)", Static: "s(0,a2,a3,0)", Stamp: "n5", Mac1: "h(a4)", Mac2: "0"}))
	for _, s := range []string{"p(a1)", "s(0,a2,a3,0)", "h(a4)", "n5", "0", "l(p(a1),n77)"} {
		if !a.Knows(s) {
			t.Error(s, "isn't known")
		}
	}
	for _, s := range []string{"a1", "a2", "a3", "a4", "", "y"} {
		if a.Knows(s) {
			t.Error(s, "is known")
		}
	}
	if a.Had() != 5 {
		t.Error("had are", a.Had())
	}
	if a.Tell("a2", "l(a7)") != api.Fine || !a.Knows("a3") || !a.Knows("a7") || a.Had() != 9 {
		t.Error("had are", a.Had())
	}
	if a.Tell("a8", "y") != api.Form || a.Knows("a8") || a.Tell() != api.Fine || a.Had() != 9 {
		t.Error("what is no term tells something")
	}
	a.Send(3, 4, message(t, api.Message{Kind: api.CookieMsg, Receiver: 1, Nonce: "n9", Cookie: "a10"}))
	a.Send(3, 4, message(t, api.Message{Kind: api.Response, Eph: "a11", Empty: "a12", Mac1: "a13", Mac2: "a14"}))
	for _, s := range []string{"a10", "a11", "a12", "a13", "a14"} {
		if !a.Knows(s) {
			t.Error(s, "isn't known")
		}
	}
	before := a.Had()
	a.Deliver(2)
	if a.Had() != before {
		t.Error("who delivers tells something")
	}
}

// P17.2: which bytes can be made.
func TestCan(t *testing.T) {
	a := air.New()
	for _, s := range []string{"", "x", "\x01", "\x04\x00\x00\x00\x07"} {
		if !a.Can([]byte(s)) {
			t.Errorf("%q can't be made", s)
		}
	}
	if !a.Can(append(data(t, "a1"), 0)) || !a.Can(data(t, "0")) || !a.Can(data(t, "l(n1,x00,p(0))")) {
		t.Error("what has no secret can't be made")
	}
	init := api.Message{Kind: api.Init, Eph: "p(a1)", Static: "0", Stamp: "0", Mac1: "0", Mac2: "a2"}
	if a.Can(data(t, "a1")) || a.Can(message(t, init)) {
		t.Error("secrets can be made")
	}
	a.Tell("a1")
	if !a.Can(data(t, "a1")) || a.Can(message(t, init)) || !a.Can(data(t, "s(0,a1,x,0)")) || a.Can(data(t, "s(0,a2,x,0)")) {
		t.Error("terms that can be derived")
	}
	a.Tell("a2")
	if !a.Can(message(t, init)) {
		t.Error("all terms can be derived")
	}
	if a.Len() != 0 {
		t.Error("something was sent")
	}
}

// P17.3: what was sent can be made.
func TestSent(t *testing.T) {
	a := air.New()
	for i, s := range []string{"a1", "s(0,a2,h(a3),0)", "d(a4,a5)", "l(a6,l(a7))", "m(a8,k(1,a9,0))"} {
		b := data(t, s)
		if a.Can(b) {
			t.Error(s, "can be made ahead of it")
		}
		a.Send(1, 2, b)
		for j := 0; j <= i; j++ {
			if d, _ := a.At(j); !a.Can(d.Bytes) {
				t.Error(j, "can't be made")
			}
		}
	}
}

// R4: what is handed in, or told, isn't kept.
func TestOwn(t *testing.T) {
	a := air.New()
	b := []byte("bytes")
	a.Send(1, 2, b)
	b[0] = 'x'
	d, _ := a.At(0)
	d.Bytes[1] = 'x'
	e, _ := a.Deliver(0)
	e.Bytes[2] = 'x'
	a.Waiting(2)
	if d, _ = a.At(0); !bytes.Equal(d.Bytes, []byte("bytes")) {
		t.Errorf("%q", d.Bytes)
	}
}

// R1: no air.
func TestNil(t *testing.T) {
	var a *air.Air
	n, e1 := a.Send(0, 0, nil)
	d, ok := a.At(0)
	f, e2 := a.Deliver(0)
	if n != 0 || e1 != api.Nil || ok || !same(d, 0, 0, "", 0) || !same(f, 0, 0, "", 0) || e2 != api.Nil || len(a.Waiting(1)) != 0 || a.Len() != 0 || a.Tell("y") != api.Nil || a.Can(nil) || a.Knows("0") || a.Had() != 0 {
		t.Error("no air tells something")
	}
}
