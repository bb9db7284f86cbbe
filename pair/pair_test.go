package pair_test

import (
	"bytes"
	"math"
	"strings"
	"testing"

	"snicket/api"
	"snicket/noise"
	"snicket/pair"
)

var keys = noise.Keys{Send: "a1", Receive: "a2"}

func of(t *testing.T, beginner bool, now int64) *pair.Pair {
	t.Helper()
	p, e := pair.New(keys, 10, 20, beginner, now)
	if e != api.Fine || p == nil {
		t.Fatal(e)
	}
	return p
}

// other is the one at the other end of a pair.
func other(t *testing.T, now int64) *pair.Pair {
	t.Helper()
	p, e := pair.New(noise.Keys{Send: "a2", Receive: "a1"}, 20, 10, false, now)
	if e != api.Fine {
		t.Fatal(e)
	}
	return p
}

// P12.1, P12.3: what a new pair tells.
func TestNew(t *testing.T) {
	for _, c := range []struct {
		k    noise.Keys
		now  int64
		want api.Code
	}{
		{keys, 0, api.Fine}, {keys, api.MaxTime, api.Fine}, {keys, -1, api.Arg}, {keys, api.MaxTime + 1, api.Arg}, {keys, math.MinInt64, api.Arg}, {keys, math.MaxInt64, api.Arg},
		{noise.Keys{Receive: "a2"}, 0, api.Form}, {noise.Keys{Send: "a1"}, 0, api.Form}, {noise.Keys{Send: "y", Receive: "a2"}, -1, api.Form}, {noise.Keys{Send: "a1", Receive: "a02"}, 0, api.Form},
	} {
		p, e := pair.New(c.k, 1, 2, true, c.now)
		if e != c.want || (p == nil) != (e != api.Fine) {
			t.Error(c, e)
		}
	}
	for _, beginner := range []bool{true, false} {
		p := of(t, beginner, 77)
		if p.Local() != 10 || p.Remote() != 20 || p.Beginner() != beginner || p.Made() != 77 || p.Sent() != 0 {
			t.Error("it isn't as it was made")
		}
	}
}

// P12.1: Transports, text by text, with counters that rise.
func TestSeal(t *testing.T) {
	p := of(t, true, 0)
	for i, b := range []string{"\x07", "", "\x0a\xff"} {
		want := api.Message{Kind: api.Transport, Receiver: 20, Counter: uint64(i), Data: "s(" + string(rune('0'+i)) + ",a1," + []string{"x07", "x", "x0aff"}[i] + ",0)"}
		if m, e := p.Seal(int64(i), []byte(b)); e != api.Fine || m != want || p.Sent() != uint64(i+1) {
			t.Error(m, e)
		}
	}
	if m, e := p.Seal(5, make([]byte, api.MaxPacket)); e != api.Fine || len(m.Data) != len("s(3,a1,x,0)")+2*api.MaxPacket {
		t.Error(e)
	}
}

// P12.1: what isn't sealed takes no counter.
func TestSealNone(t *testing.T) {
	p := of(t, true, 1000)
	for _, c := range []struct {
		now  int64
		size int
		want api.Code
	}{
		{-1, 9999, api.Arg}, {api.MaxTime + 1, 1, api.Arg}, {181000, 1, api.Limit}, {181000, 9999, api.Limit}, {api.MaxTime, 1, api.Limit}, {180999, 2001, api.Long}, {0, 2001, api.Long},
	} {
		if m, e := p.Seal(c.now, make([]byte, c.size)); e != c.want || m != (api.Message{}) || p.Sent() != 0 {
			t.Error(c, e)
		}
	}
	for _, now := range []int64{180999, 0, 1000} { // 0 is ahead of when it was made
		if _, e := p.Seal(now, []byte{1}); e != api.Fine {
			t.Error(now, e)
		}
	}
	big := "x" + strings.Repeat("00", 32000)
	p, _ = pair.New(noise.Keys{Send: big, Receive: big}, 1, 2, true, 0)
	if _, e := p.Seal(0, make([]byte, 2000)); e != api.Long || p.Sent() != 0 {
		t.Error(e)
	}
	if _, e := p.Seal(0, nil); e != api.Fine {
		t.Error(e)
	}
	edge := "x" + strings.Repeat("00", 65524/2) // with it Data has 65536 bytes: a term, but not one that wire takes
	p, _ = pair.New(noise.Keys{Send: edge, Receive: edge}, 1, 2, true, 0)
	if _, e := p.Seal(0, []byte{1}); e != api.Long || p.Sent() != 0 {
		t.Error(e)
	}
}

// P12.1, P12.3: counters end.
func TestSkip(t *testing.T) {
	p := of(t, true, 0)
	if p.Skip(0) != api.Fine || p.Skip(5) != api.Fine || p.Sent() != 5 || p.Skip(4) != api.Arg || p.Skip(0) != api.Arg || p.Sent() != 5 || p.Skip(5) != api.Fine {
		t.Error("it skips to", p.Sent())
	}
	if m, e := p.Seal(0, nil); e != api.Fine || m.Counter != 5 {
		t.Error(m, e)
	}
	p.Skip(api.MaxCount - 1)
	if !p.Fresh(0) {
		t.Error("it isn't fresh")
	}
	if m, e := p.Seal(0, nil); e != api.Fine || m.Counter != api.MaxCount-1 {
		t.Error(m, e)
	}
	if _, e := p.Seal(0, make([]byte, 3000)); e != api.Limit || p.Sent() != api.MaxCount || p.Fresh(0) {
		t.Error(e)
	}
	if p.Skip(math.MaxUint64) != api.Fine || p.Sent() != math.MaxUint64 {
		t.Error("it doesn't skip to the end")
	}
	if _, e := p.Seal(0, nil); e != api.Limit || p.Sent() != math.MaxUint64 {
		t.Error(e)
	}
}

// P12.2: what is opened, and what isn't, in the order of the errors.
func TestOpen(t *testing.T) {
	p := other(t, 1000)
	fine := api.Message{Kind: api.Transport, Receiver: 20, Counter: 3, Data: "s(3,a1,x07ff,0)"}
	change := func(f func(*api.Message)) api.Message {
		m := fine
		f(&m)
		return m
	}
	for i, c := range []struct {
		m    api.Message
		now  int64
		want api.Code
	}{
		{api.Message{}, -1, api.Form}, {change(func(m *api.Message) { m.Data = "" }), 1000, api.Form}, {change(func(m *api.Message) { m.Sender = 1 }), 1000, api.Form},
		{api.Message{Kind: api.CookieMsg, Receiver: 20, Nonce: "n1", Cookie: "0"}, 1000, api.Form}, {change(func(m *api.Message) { m.Kind = api.Init }), 1000, api.Form},
		{change(func(m *api.Message) { m.Receiver = 10 }), -1, api.None}, {change(func(m *api.Message) { m.Receiver = 0 }), 181000, api.None},
		{fine, -1, api.Arg}, {fine, api.MaxTime + 1, api.Arg}, {change(func(m *api.Message) { m.Counter = api.MaxCount }), -1, api.Arg},
		{fine, 181000, api.Limit}, {fine, api.MaxTime, api.Limit}, {change(func(m *api.Message) { m.Counter = api.MaxCount }), 1000, api.Limit}, {change(func(m *api.Message) { m.Counter = math.MaxUint64 }), 1000, api.Limit},
		{change(func(m *api.Message) { m.Counter = 4 }), 1000, api.Key}, {change(func(m *api.Message) { m.Data = "s(3,a2,x07,0)" }), 1000, api.Key}, {change(func(m *api.Message) { m.Data = "s(3,a1,x07,n0)" }), 1000, api.Key}, {change(func(m *api.Message) { m.Data = "x07" }), 1000, api.Key},
		{change(func(m *api.Message) { m.Data = "s(3,a1,a7,0)" }), 1000, api.Form}, {change(func(m *api.Message) { m.Data = "s(3,a1,l(x07),0)" }), 1000, api.Form},
		{fine, 180999, api.Fine},
		{fine, 1000, api.Stale}, {change(func(m *api.Message) { m.Data = "0" }), 0, api.Stale},
		{change(func(m *api.Message) { m.Counter, m.Data = 2, "s(2,a1,x,0)" }), 0, api.Fine},
		{change(func(m *api.Message) { m.Counter, m.Data = 9999, "s(9999,a1,x,0)" }), 0, api.Fine},
		{change(func(m *api.Message) { m.Counter, m.Data = 7951, "s(7951,a1,x,0)" }), 0, api.Stale}, {change(func(m *api.Message) { m.Counter, m.Data = 7952, "s(7952,a1,x,0)" }), 0, api.Fine},
	} {
		b, e := p.Open(c.now, c.m)
		if e != c.want || e != api.Fine && len(b) != 0 {
			t.Errorf("%d: %v, %d", i, b, e)
		}
		if e == api.Fine && c.m == fine && !bytes.Equal(b, []byte{7, 255}) {
			t.Errorf("%d: %v", i, b)
		}
	}
}

// P12.3: how fresh, how tired.
func TestFresh(t *testing.T) {
	for _, c := range []struct {
		now  int64
		want bool
	}{{1000, true}, {0, true}, {180999, true}, {181000, false}, {api.MaxTime, false}, {-1, false}, {api.MaxTime + 1, false}, {math.MinInt64, false}, {math.MaxInt64, false}} {
		if of(t, true, 1000).Fresh(c.now) != c.want || of(t, false, 1000).Fresh(c.now) != c.want {
			t.Error("fresh at", c)
		}
	}
	for _, c := range []struct {
		now, after int64
		want       bool
	}{
		{121000, 120000, true}, {120999, 120000, false}, {999999, 120000, true}, {1000, 0, true}, {0, 0, true}, {0, 1, false}, {0, -5, true}, {0, math.MinInt64, true}, {api.MaxTime, math.MaxInt64, false},
		{-1, 0, false}, {api.MaxTime + 1, 0, false}, {math.MaxInt64, math.MinInt64, false},
	} {
		if of(t, true, 1000).Tired(c.now, c.after) != c.want {
			t.Error("tired at", c)
		}
		if of(t, false, 1000).Tired(c.now, c.after) {
			t.Error("a hearer is tired at", c)
		}
	}
}

// P12.4: what one seals the other one opens, once, in whatever order; no two have one counter.
func TestBoth(t *testing.T) {
	p, q := of(t, true, 0), other(t, 5)
	var l []api.Message
	seen := map[uint64]bool{}
	for i := 0; i < 1500; i++ {
		m, e := p.Seal(int64(i), []byte{byte(i), byte(i >> 8)})
		if e != api.Fine || seen[m.Counter] {
			t.Fatal(i, e)
		}
		seen[m.Counter] = true
		l = append(l, m)
	}
	for i := range l {
		j := (i*7 + 3) % len(l)
		b, e := q.Open(179999, l[j])
		if e != api.Fine || int(b[0])+int(b[1])<<8 != j {
			t.Fatal(j, b, e)
		}
		if b, e = q.Open(179999, l[j]); e != api.Stale || len(b) != 0 {
			t.Fatal("it is opened twice")
		}
		if _, e = p.Open(0, l[j]); e != api.None {
			t.Fatal("its own one is opened")
		}
	}
	if _, e := p.Seal(180000, nil); e != api.Limit {
		t.Error(e)
	}
	m, _ := p.Seal(179999, nil)
	if _, e := q.Open(180005, m); e != api.Limit {
		t.Error(e)
	}
	if b, e := q.Open(180004, m); e != api.Fine || len(b) != 0 {
		t.Error(e)
	}
	back, _ := q.Seal(180004, []byte{9})
	if b, e := p.Open(179999, back); e != api.Fine || !bytes.Equal(b, []byte{9}) {
		t.Error(e)
	}
}

// R1: a nil pair.
func TestNil(t *testing.T) {
	var p *pair.Pair
	m, e := p.Seal(-1, make([]byte, 3000))
	b, e2 := p.Open(-1, api.Message{})
	if m != (api.Message{}) || e != api.Nil || len(b) != 0 || e2 != api.Nil || p.Skip(0) != api.Nil || p.Local() != 0 || p.Remote() != 0 || p.Beginner() || p.Made() != 0 || p.Sent() != 0 || p.Fresh(0) || p.Tired(0, 0) {
		t.Error("a nil pair tells something")
	}
}
