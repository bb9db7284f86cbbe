package peer_test

import (
	"bytes"
	"math"
	"slices"
	"strings"
	"testing"

	"snicket/api"
	"snicket/macs"
	"snicket/noise"
	"snicket/peer"
	"snicket/source"
)

// side is one of two who know each other.
type side struct {
	self string
	*peer.Peer
	src *source.Source
}

func of(t *testing.T, c api.PeerConfig) *peer.Peer {
	t.Helper()
	p, e := peer.New(c)
	if e != api.Fine || p == nil {
		t.Fatal(c, e)
	}
	return p
}

func two(t *testing.T, q string) (side, side) {
	t.Helper()
	x := side{"a1", of(t, api.PeerConfig{Public: "p(a2)", Shared: q, Endpoint: 2}), source.New(100, 1000)}
	y := side{"a2", of(t, api.PeerConfig{Public: "p(a1)", Shared: q}), source.New(200, 2000)}
	return x, y
}

func fine(t *testing.T, e api.Code) {
	t.Helper()
	if e != api.Fine {
		t.Fatal("the code is", e)
	}
}

func is(t *testing.T, got, want api.Code) {
	t.Helper()
	if got != want {
		t.Errorf("the code is %d, not %d", got, want)
	}
}

func (s side) knock(t *testing.T, now int64) api.Message {
	t.Helper()
	m, e := s.Knock(now, s.self, s.src)
	fine(t, e)
	return m
}

func (s side) hear(t *testing.T, now int64, m api.Message, from int) api.Message {
	t.Helper()
	h, e := noise.Hear(s.self, m)
	fine(t, e)
	r, e := s.Hear(now, h, s.src, from)
	fine(t, e)
	return r
}

// agree lets x begin with y.
func agree(t *testing.T, x, y side, now int64) {
	t.Helper()
	fine(t, x.Finish(now, x.self, y.hear(t, now, x.knock(t, now), 1), 2))
}

// P15.1: what a new peer tells, and what can't be one.
func TestNew(t *testing.T) {
	right := api.Prefix{Addr: []byte{1, 2, 3, 4}, Bits: 8}
	for i, c := range []struct {
		c    api.PeerConfig
		want api.Code
	}{
		{api.PeerConfig{Public: "p(a2)", Shared: "0"}, api.Fine}, {api.PeerConfig{Public: "p(a2)", Shared: "a3", Allowed: []api.Prefix{right, right}, Endpoint: math.MaxInt}, api.Fine},
		{api.PeerConfig{}, api.Form}, {api.PeerConfig{Public: "a2", Shared: "0"}, api.Form}, {api.PeerConfig{Public: "p(a2", Shared: "0"}, api.Form}, {api.PeerConfig{Public: "p(a2)"}, api.Form}, {api.PeerConfig{Public: "p(a2)", Shared: "y"}, api.Form},
		{api.PeerConfig{Public: "p(a2)", Shared: "0", Allowed: []api.Prefix{right, {}}}, api.Form}, {api.PeerConfig{Public: "p(a2)", Shared: "0", Allowed: []api.Prefix{{Addr: right.Addr, Bits: 33}}, Endpoint: -1}, api.Form},
		{api.PeerConfig{Public: "p(a2)", Shared: "0", Endpoint: -1}, api.Arg},
	} {
		if p, e := peer.New(c.c); e != c.want || (p == nil) != (e != api.Fine) {
			t.Errorf("%d: %d", i, e)
		}
	}
	p := of(t, api.PeerConfig{Public: "p(a2)", Shared: "0", Endpoint: 7})
	if _, ok := p.Take(); p.Public() != "p(a2)" || p.Endpoint() != 7 || ok || p.Staged() != 0 || len(p.Due(api.MaxTime)) != 0 || len(p.Made()) != 0 || p.Knows(0) != 0 || p.Fresh(0) || p.Tired(0, 0) || p.Erase() != 0 || p.GiveUp() != 0 {
		t.Error("a new one tells something")
	}
}

// P15.1: a handshake is begun, message by message.
func TestKnock(t *testing.T) {
	x, _ := two(t, "0")
	m := x.knock(t, 50)
	want, _, _ := noise.Begin("a1", "a100", "p(a2)", 50, 1000)
	want, _ = macs.Sign(want, "p(a2)", "")
	if m != want || x.Knows(1000) != 2 || x.Knows(1001) != 0 {
		t.Error("the Init is", m)
	}
	for _, now := range []int64{50, 51, 5049, 49, 0} {
		m, e := x.Knock(now, x.self, x.src)
		if is(t, e, api.Wait); m != (api.Message{}) {
			t.Error(m)
		}
	}
	m = x.knock(t, 5050)
	want, _, _ = noise.Begin("a1", "a101", "p(a2)", 5050, 1001)
	want, _ = macs.Sign(want, "p(a2)", "")
	if m != want || x.Knows(1000) != 0 || x.Knows(1001) != 2 {
		t.Error("the Init is", m)
	}
	x.GiveUp()
	if m = x.knock(t, 3); m.Sender != 1002 || !strings.Contains(m.Stamp, ",n5051,") {
		t.Error("stamps don't rise:", m)
	}
}

// P15.1: what isn't begun, in the order of the errors, and what it takes.
func TestKnockNone(t *testing.T) {
	x, _ := two(t, "0")
	for _, c := range []struct {
		now  int64
		self string
		src  *source.Source
		want api.Code
	}{
		{-1, "", nil, api.Nil}, {0, "a1", nil, api.Nil}, {-1, "", x.src, api.Arg}, {api.MaxTime + 1, "a1", x.src, api.Arg}, {0, "", x.src, api.Form}, {0, "y", x.src, api.Form},
		{0, "a1", source.New(math.MaxUint32, 1), api.Limit}, {0, "a1", source.New(1, math.MaxUint32), api.Limit}, {0, "x" + strings.Repeat("00", 32000), source.New(1, 1), api.Long},
	} {
		m, e := x.Knock(c.now, c.self, c.src)
		if is(t, e, c.want); m != (api.Message{}) || len(x.Due(api.MaxTime)) != 0 {
			t.Error(c.now, c.self, "begins something")
		}
	}
	if a, n := x.src.Left(); a != math.MaxUint32-100 || n != math.MaxUint32-1000 {
		t.Error("something was taken")
	}
	src := source.New(1, math.MaxUint32)
	x.Knock(0, "a1", src)
	if a, _ := src.Left(); a != math.MaxUint32-2 {
		t.Error("the secret wasn't taken")
	}
	x.knock(t, 0)
	_, e := x.Knock(1, "y", x.src)
	is(t, e, api.Form)
	_, e = x.Knock(1, "a1", source.New(math.MaxUint32, 1))
	is(t, e, api.Wait)
	src = source.New(5, 5)
	_, e = x.Knock(5000, "x"+strings.Repeat("00", 32000), src)
	if a, n := src.Left(); e != api.Long || a != math.MaxUint32-6 || n != math.MaxUint32-6 || x.Knows(1000) != 2 {
		t.Error("the handshake goes, or nothing is taken", e)
	}
}

// P15.2: an Init is answered.
func TestHear(t *testing.T) {
	x, y := two(t, "a9")
	m := x.knock(t, 70)
	h, _ := noise.Hear("a2", m)
	r := y.hear(t, 80, m, 33)
	want, _, _ := noise.Answer(h, "a200", "a9", 2000)
	want, _ = macs.Sign(want, "p(a1)", "")
	if r != want || y.Endpoint() != 33 || y.Knows(2000) != 1 || !slices.Equal(y.Made(), []int64{80}) || y.Fresh(80) {
		t.Error("the Response is", r)
	}
	_, e := y.Seal(80, nil)
	is(t, e, api.None)
	for _, c := range []struct {
		now  int64
		h    noise.Heard
		src  *source.Source
		from int
		want api.Code
	}{
		{-1, h, nil, -1, api.Nil}, {-1, h, y.src, 1, api.Arg}, {0, h, y.src, -1, api.Arg}, {api.MaxTime + 1, noise.Heard{}, y.src, 1, api.Arg},
		{0, noise.Heard{}, y.src, 1, api.Form}, {0, noise.Heard{Remote: 1, Public: "p(a3)", Stamp: 99, Eph: h.Eph, C: h.C, H: h.H}, y.src, 1, api.Form},
		{0, h, y.src, 1, api.Stale}, {0, h, source.New(math.MaxUint32, 1), 1, api.Stale}, {0, stamped(h, 69), y.src, 1, api.Stale}, {0, stamped(h, 0), y.src, 1, api.Stale},
		{0, stamped(h, 71), source.New(math.MaxUint32, 1), 1, api.Limit}, {0, stamped(h, 71), source.New(1, math.MaxUint32), 1, api.Limit},
		{0, noise.Heard{Public: h.Public, Stamp: 71, Eph: "y", C: h.C, H: h.H}, source.New(1, 1), 1, api.Form},
		{0, noise.Heard{Public: h.Public, Stamp: 71, Eph: h.Eph, C: h.C, H: "x" + strings.Repeat("00", 32700)}, source.New(1, 1), 1, api.Long},
	} {
		r, e := y.Hear(c.now, c.h, c.src, c.from)
		if is(t, e, c.want); r != (api.Message{}) || y.Endpoint() != 33 || !slices.Equal(y.Made(), []int64{80}) || y.Knows(2000) != 1 {
			t.Error("something was changed")
		}
	}
	if a, n := y.src.Left(); a != math.MaxUint32-201 || n != math.MaxUint32-2001 {
		t.Error("something was taken")
	}
	src := source.New(1, 1)
	y.Hear(0, noise.Heard{Public: h.Public, Stamp: 71, Eph: "y", C: h.C, H: h.H}, src, 1)
	if a, n := src.Left(); a != math.MaxUint32-2 || n != math.MaxUint32-2 {
		t.Error("nothing was taken")
	}
	r, e = y.Hear(90, stamped(h, 71), y.src, 0)
	if fine(t, e); y.Endpoint() != 0 || !slices.Equal(y.Made(), []int64{90}) || y.Knows(2000) != 0 || y.Knows(2001) != 1 || r.Sender != 2001 {
		t.Error("the next one doesn't take its place")
	}
	_, y = two(t, "0")
	_, e = y.Hear(0, stamped(h, 0), y.src, 1)
	fine(t, e)
	_, e = y.Hear(0, stamped(h, 0), y.src, 1)
	is(t, e, api.Stale)
	_, e = y.Hear(0, stamped(h, math.MaxUint64), y.src, 1)
	fine(t, e)
}

func stamped(h noise.Heard, stamp uint64) noise.Heard {
	h.Stamp = stamp
	return h
}

// P15.2: a handshake is finished, once.
func TestFinish(t *testing.T) {
	x, y := two(t, "a9")
	m := x.knock(t, 70)
	r := y.hear(t, 80, m, 33)
	bad, other := r, r
	bad.Receiver, other.Eph = 5, "p(a5)"
	for _, c := range []struct {
		now  int64
		self string
		m    api.Message
		from int
		want api.Code
	}{
		{-1, "a1", r, 1, api.Arg}, {0, "a1", r, -1, api.Arg}, {api.MaxTime + 1, "a1", r, 1, api.Arg}, {0, "", r, 1, api.Form}, {0, "a1", m, 1, api.Form}, {0, "a1", bad, 1, api.None}, {0, "a2", r, 1, api.Key}, {0, "a1", other, 1, api.Key},
	} {
		if is(t, x.Finish(c.now, c.self, c.m, c.from), c.want); x.Endpoint() != 2 || len(x.Made()) != 0 || x.Knows(1000) != 2 {
			t.Error("something was changed")
		}
	}
	fine(t, x.Finish(90, "a1", r, 44))
	if x.Endpoint() != 44 || !slices.Equal(x.Made(), []int64{90}) || x.Knows(1000) != 1 || !x.Fresh(90) || !x.Tired(100, 10) || x.Tired(100, 11) {
		t.Error("there is no pair")
	}
	is(t, x.Finish(90, "a1", r, 44), api.None)
	is(t, x.Finish(90, "", api.Message{}, 44), api.None)
	x.knock(t, 91)
	is(t, x.Finish(90, "a1", r, 44), api.None)
	p := of(t, api.PeerConfig{Public: "p(a2)", Shared: "0"})
	x, y = two(t, "0")
	r = y.hear(t, 0, x.knock(t, 0), 1)
	is(t, p.Finish(0, "a1", r, 0), api.None)
	fine(t, x.Finish(0, "a1", r, 0))
	if x.Endpoint() != 0 {
		t.Error("the endpoint is", x.Endpoint())
	}
}

// P15.2: refusals, and what is signed by a cookie.
func TestRefused(t *testing.T) {
	x, _ := two(t, "0")
	m := x.knock(t, 1000)
	refusal, e := macs.Refuse(m, "p(a2)", "m(a7,n1)", 5)
	fine(t, e)
	bad, other := refusal, refusal
	bad.Receiver, other.Nonce = 999, "n6"
	wrong, _ := macs.Refuse(m, "p(a3)", "m(a7,n1)", 5)
	for _, c := range []struct {
		now  int64
		m    api.Message
		want api.Code
	}{{-1, refusal, api.Arg}, {api.MaxTime + 1, refusal, api.Arg}, {0, bad, api.None}, {0, api.Message{}, api.None}, {0, m, api.None}, {0, api.Message{Receiver: 1000}, api.Form}, {0, other, api.Key}, {0, wrong, api.Key}} {
		is(t, x.Refused(c.now, c.m), c.want)
	}
	if again := x.knock(t, 6000); macs.Second(again, "m(a7,n1)") || again.Mac2 != "0" {
		t.Error("a refusal that was refused counts")
	}
	is(t, x.Refused(6000, refusal), api.None)
	x.GiveUp()
	is(t, x.Refused(6000, refusal), api.None)
	m = x.knock(t, 7000)
	refusal, _ = macs.Refuse(m, "p(a2)", "m(a7,n1)", 5)
	fine(t, x.Refused(8000, refusal))
	for _, c := range []struct {
		now  int64
		want bool
	}{{12000, true}, {127999, true}, {128000, false}, {200000, false}, {0, true}, {7999, true}, {8000, true}} {
		x.GiveUp()
		if m = x.knock(t, c.now); macs.Second(m, "m(a7,n1)") != c.want || (m.Mac2 == "0") == c.want || !macs.First(m, "p(a2)") {
			t.Error(c.now, m.Mac2)
		}
	}
	refusal, _ = macs.Refuse(m, "p(a2)", "m(a8,n1)", 6)
	fine(t, x.Refused(300000, refusal))
	z := side{"a2", of(t, api.PeerConfig{Public: "p(a1)", Shared: "0"}), source.New(1, 1)}
	h, e := noise.Hear("a1", z.knock(t, 0))
	fine(t, e)
	r, e := x.Hear(300001, h, x.src, 1)
	if fine(t, e); !macs.Second(r, "m(a8,n1)") {
		t.Error("a Response isn't signed by the cookie")
	}
	refusal, _ = macs.Refuse(m, "p(a2)", "m(a9,n1)", 7)
	fine(t, x.Refused(300002, refusal))
	x.Erase()
	x.GiveUp()
	if m = x.knock(t, 300003); !macs.Second(m, "m(a9,n1)") {
		t.Error("the cookie is gone")
	}
}

// P15.3: who began seals at once; who heard when it is confirmed.
func TestSeal(t *testing.T) {
	x, y := two(t, "0")
	_, e := x.Seal(0, nil)
	is(t, e, api.None)
	agree(t, x, y, 10)
	m, e := x.Seal(10, []byte{7})
	if fine(t, e); m.Receiver != 2000 || m.Counter != 0 || m.Kind != api.Transport {
		t.Error(m)
	}
	for _, c := range []struct {
		now  int64
		size int
		want api.Code
	}{{-1, 1, api.Arg}, {api.MaxTime + 1, 1, api.Arg}, {180010, 3000, api.Limit}, {10, 2001, api.Long}} {
		m, e := x.Seal(c.now, make([]byte, c.size))
		if is(t, e, c.want); m != (api.Message{}) {
			t.Error(m)
		}
	}
	_, e = y.Seal(-1, nil)
	is(t, e, api.Arg)
	_, e = y.Seal(10, nil)
	is(t, e, api.None)
	b, confirmed, e := y.Open(20, m, 55)
	if fine(t, e); !bytes.Equal(b, []byte{7}) || !confirmed || y.Endpoint() != 55 || !y.Fresh(20) || y.Tired(999999, 0) {
		t.Error(b, confirmed)
	}
	m, e = y.Seal(20, []byte{8})
	if fine(t, e); m.Receiver != 1000 {
		t.Error(m)
	}
	b, confirmed, e = x.Open(20, m, 0)
	if fine(t, e); !bytes.Equal(b, []byte{8}) || confirmed || x.Endpoint() != 0 {
		t.Error(b, confirmed)
	}
	m, _ = x.Seal(30, nil)
	if b, confirmed, e = y.Open(30, m, 1); len(b) != 0 || confirmed || e != api.Fine {
		t.Error(b, confirmed, e)
	}
}

// P15.3: what isn't opened changes nothing.
func TestOpen(t *testing.T) {
	x, y := two(t, "0")
	agree(t, x, y, 10)
	m, _ := x.Seal(10, []byte{7})
	bad, other := m, m
	bad.Receiver, other.Counter = 1, 1
	for _, c := range []struct {
		now  int64
		m    api.Message
		from int
		want api.Code
	}{
		{-1, api.Message{}, 1, api.Arg}, {10, m, -1, api.Arg}, {api.MaxTime + 1, m, 1, api.Arg}, {10, api.Message{}, 1, api.Form}, {10, api.Message{Kind: api.Transport, Receiver: 2000}, 1, api.Form},
		{10, api.Message{Kind: api.CookieMsg, Receiver: 2000, Nonce: "0", Cookie: "0"}, 1, api.Form}, {10, api.Message{Kind: api.CookieMsg, Receiver: 1, Nonce: "0", Cookie: "0"}, 1, api.Form}, {10, api.Message{Kind: api.Transport, Receiver: 1}, 1, api.Form}, {10, bad, 1, api.None}, {10, other, 1, api.Key}, {180010, m, 1, api.Limit},
	} {
		b, confirmed, e := y.Open(c.now, c.m, c.from)
		if is(t, e, c.want); len(b) != 0 || confirmed || y.Endpoint() != 1 || y.Fresh(10) || len(y.Due(50000)) != 0 {
			t.Error("something was changed")
		}
	}
	_, _, e := y.Open(10, m, 9)
	fine(t, e)
	b, confirmed, e := y.Open(11, m, 8)
	if is(t, e, api.Stale); len(b) != 0 || confirmed || y.Endpoint() != 9 {
		t.Error("it is opened twice")
	}
}

// P15.3: older pairs still open, and aren't confirmed.
func TestPairs(t *testing.T) {
	x, y := two(t, "0")
	agree(t, x, y, 0)
	m1, _ := x.Seal(0, []byte{1})
	_, confirmed, _ := y.Open(0, m1, 1)
	m2, _ := x.Seal(0, []byte{2})
	agree(t, x, y, 6000)
	if !confirmed || !slices.Equal(x.Made(), []int64{0, 6000}) || !slices.Equal(y.Made(), []int64{0, 6000}) {
		t.Error(x.Made(), y.Made())
	}
	m3, _ := x.Seal(6000, []byte{3})
	if b, confirmed, e := y.Open(6000, m2, 1); string(b) != "\x02" || confirmed || e != api.Fine || y.Tired(0, 0) {
		t.Error(b, confirmed, e)
	}
	if s, _ := y.Seal(6000, nil); s.Receiver != 1000 {
		t.Error("the next pair is used too early")
	}
	if b, confirmed, e := y.Open(6000, m3, 1); string(b) != "\x03" || !confirmed || e != api.Fine {
		t.Error(b, confirmed, e)
	}
	if s, _ := y.Seal(6000, nil); s.Receiver != 1001 || y.Knows(2000) != 1 || y.Knows(2001) != 1 {
		t.Error("the pair that was confirmed isn't used")
	}
	agree(t, x, y, 12000)
	agree(t, x, y, 18000)
	if y.Knows(2000) != 1 || y.Knows(2001) != 1 || y.Knows(2002) != 0 || y.Knows(2003) != 1 || x.Knows(1001) != 0 || x.Knows(1002) != 1 || x.Knows(1003) != 1 {
		t.Error("other pairs are kept", x.Made(), y.Made())
	}
	if !slices.Equal(y.Made(), []int64{0, 6000, 18000}) || y.Erase() != 3 || y.Erase() != 0 || y.Knows(2003) != 0 || len(y.Made()) != 0 {
		t.Error(y.Made())
	}
}

// P15.4: packets wait in order, 32 at most.
func TestStage(t *testing.T) {
	x, _ := two(t, "0")
	b := []byte{0}
	for i := range api.MaxStaged {
		b[0] = byte(i)
		if x.Stage(b) || x.Staged() != i+1 {
			t.Error(i, "goes")
		}
	}
	if !x.Stage([]byte{99}) || x.Staged() != api.MaxStaged {
		t.Error("none goes")
	}
	if b, ok := x.Take(); !ok || !bytes.Equal(b, []byte{1}) || x.Staged() != api.MaxStaged-1 {
		t.Error(b, ok)
	}
	if x.Stage(nil) || x.GiveUp() != api.MaxStaged || x.Staged() != 0 || x.GiveUp() != 0 {
		t.Error("they don't go")
	}
	x.Stage([]byte{5})
	x.Erase()
	if b, ok := x.Take(); !ok || !bytes.Equal(b, []byte{5}) {
		t.Error("Erase takes what is staged")
	}
	if b, ok := x.Take(); ok || len(b) != 0 {
		t.Error(b, ok)
	}
}

func due(t *testing.T, p *peer.Peer, now int64, want ...int) {
	t.Helper()
	if got := p.Due(now); !slices.Equal(got, want) {
		t.Errorf("due at %d are %v, not %v", now, got, want)
	}
}

// P15.4: what is due is told by numbers.
func TestNumbers(t *testing.T) {
	if got := [5]int{peer.Erase, peer.GiveUp, peer.Retry, peer.Silence, peer.Keepalive}; got != [5]int{1, 2, 3, 4, 5} {
		t.Error(got)
	}
}

// P15.4: a handshake grows old.
func TestDueHandshake(t *testing.T) {
	x, y := two(t, "0")
	x.knock(t, 1000)
	due(t, x.Peer, 5999)
	due(t, x.Peer, 0)
	due(t, x.Peer, 6000, peer.Retry)
	due(t, x.Peer, 90999, peer.Retry)
	due(t, x.Peer, 91000, peer.GiveUp)
	x.knock(t, 80000)
	due(t, x.Peer, 84999)
	due(t, x.Peer, 85000, peer.Retry)
	due(t, x.Peer, 91000, peer.GiveUp)
	due(t, x.Peer, -1)
	due(t, x.Peer, api.MaxTime+1)
	due(t, x.Peer, api.MaxTime, peer.GiveUp)
	x.GiveUp()
	due(t, x.Peer, api.MaxTime)
	agree(t, x, y, 100000)
	due(t, x.Peer, 200000)
	x.knock(t, 200000)
	x.Erase()
	due(t, x.Peer, 300000)
	if x.Knows(1002) != 0 {
		t.Error("the handshake stays")
	}
}

// P15.3, P15.4: who waits for an answer.
func TestDueSilence(t *testing.T) {
	x, y := two(t, "0")
	agree(t, x, y, 0)
	x.Seal(500, nil)
	due(t, x.Peer, 60000)
	x.Seal(1000, []byte{1})
	m, _ := x.Seal(4000, []byte{2})
	due(t, x.Peer, 15999)
	due(t, x.Peer, 16000, peer.Silence)
	x.knock(t, 16000)
	due(t, x.Peer, 17000)
	_, _, e := y.Open(17000, m, 1)
	fine(t, e)
	back, e := y.Seal(17000, nil)
	fine(t, e)
	_, _, e = x.Open(17000, back, 2)
	fine(t, e)
	x.GiveUp()
	due(t, x.Peer, 60000)
	x.Seal(20000, []byte{1})
	due(t, x.Peer, 35000, peer.Silence)
	x.GiveUp()
	due(t, x.Peer, 60000)
	x.Seal(20000, []byte{1})
	x.Erase()
	due(t, x.Peer, 60000)
	x, y = two(t, "0")
	agree(t, x, y, 0)
	x.Seal(0, []byte{1})
	agree(t, x, y, 14000)
	due(t, x.Peer, 15000)
	due(t, x.Peer, 29000)
	m, _ = x.Seal(14000, []byte{1})
	y.Open(14000, m, 1)
	y.Seal(14000, []byte{1})
	due(t, y.Peer, 28999)
	due(t, y.Peer, 29000, peer.Silence)
}

// P15.3, P15.4: who owes an answer.
func TestDueKeepalive(t *testing.T) {
	x, y := two(t, "0")
	agree(t, x, y, 0)
	m, _ := x.Seal(0, nil)
	y.Open(0, m, 1)
	due(t, y.Peer, 50000)
	m, _ = x.Seal(1000, []byte{1})
	y.Open(1000, m, 1)
	m, _ = x.Seal(3000, []byte{1})
	y.Open(3000, m, 1)
	due(t, y.Peer, 10999)
	due(t, y.Peer, 11000, peer.Keepalive)
	due(t, y.Peer, 179999, peer.Keepalive)
	due(t, y.Peer, 180000)
	y.Seal(11000, nil)
	due(t, y.Peer, 50000)
	m, _ = x.Seal(12000, []byte{1})
	y.Open(12000, m, 1)
	y.GiveUp()
	due(t, y.Peer, 22000, peer.Keepalive)
	y.Seal(15000, make([]byte, 3000))
	due(t, y.Peer, 22000, peer.Keepalive)
	y.Seal(15000, []byte{1})
	due(t, y.Peer, 29999)
	due(t, y.Peer, 30000, peer.Silence)
	m, _ = x.Seal(31000, []byte{1})
	y.Open(31000, m, 1)
	y.Skip(math.MaxUint64)
	due(t, y.Peer, 50000)
	x, y = two(t, "0")
	agree(t, x, y, 0)
	m, _ = x.Seal(0, []byte{1})
	y.Open(0, m, 1)
	y.Erase()
	agree(t, x, y, 20000)
	m, _ = x.Seal(20000, nil)
	y.Open(20000, m, 1)
	due(t, y.Peer, 50000)
}

// P15.4: the newest pair grows old; several things are due at once.
func TestDueErase(t *testing.T) {
	x, y := two(t, "0")
	agree(t, x, y, 0)
	agree(t, x, y, 10000)
	due(t, x.Peer, 549999)
	due(t, x.Peer, 550000, peer.Erase)
	due(t, y.Peer, 550000, peer.Erase)
	x.Seal(10000, []byte{1})
	due(t, x.Peer, 550000, peer.Erase, peer.Silence)
	x.knock(t, 500000)
	due(t, x.Peer, 550000, peer.Erase, peer.Retry)
	due(t, x.Peer, 590000, peer.Erase, peer.GiveUp)
	if x.Erase() != 2 {
		t.Error("two pairs were there")
	}
	due(t, x.Peer, 990000)
}

// P15.4: counters of all pairs.
func TestSkip(t *testing.T) {
	x, y := two(t, "0")
	x.Skip(5)
	agree(t, x, y, 0)
	x.Skip(7)
	if m, _ := x.Seal(0, nil); m.Counter != 7 {
		t.Error(m.Counter)
	}
	x.Skip(3)
	if m, _ := x.Seal(0, nil); m.Counter != 8 {
		t.Error(m.Counter)
	}
	m, _ := x.Seal(0, nil)
	y.Open(0, m, 1)
	agree(t, x, y, 6000)
	y.Skip(100)
	if m, _ := y.Seal(6000, nil); m.Counter != 100 {
		t.Error(m.Counter)
	}
	m, _ = x.Seal(6000, nil)
	y.Open(6000, m, 1)
	if m, _ := y.Seal(6000, nil); m.Counter != 100 || m.Receiver != 1001 {
		t.Error("the next pair doesn't skip", m.Counter)
	}
	x.Skip(math.MaxUint64)
	_, e := x.Seal(6000, nil)
	is(t, e, api.Limit)
	if x.Fresh(6000) {
		t.Error("it is fresh")
	}
}

// P15.4: which numbers are known.
func TestKnows(t *testing.T) {
	x, y := two(t, "0")
	agree(t, x, y, 0)
	x.src = source.New(500, 1000)
	x.knock(t, 100)
	if x.Knows(1000) != 1 {
		t.Error("a pair's number counts first")
	}
	x.Erase()
	x.src = source.New(500, 4)
	x.knock(t, 100)
	if x.Knows(4) != 2 || x.Knows(0) != 0 || x.Knows(1000) != 0 {
		t.Error("the handshake's number")
	}
}

// R4: what is told, or handed in, isn't kept.
func TestOwn(t *testing.T) {
	x, y := two(t, "0")
	b := []byte{1, 2}
	x.Stage(b)
	b[0] = 9
	if got, _ := x.Take(); got[0] != 1 {
		t.Error("what was handed in is kept")
	}
	agree(t, x, y, 5)
	x.Made()[0] = 6
	if x.Made()[0] != 5 {
		t.Error("what was told is kept")
	}
	a := []byte{1, 2, 3, 4}
	of(t, api.PeerConfig{Public: "p(a2)", Shared: "0", Allowed: []api.Prefix{{Addr: a, Bits: 3}}})
	if !bytes.Equal(a, []byte{1, 2, 3, 4}) {
		t.Error("what was handed in was changed")
	}
}

// R1: a nil peer.
func TestNil(t *testing.T) {
	var p *peer.Peer
	src := source.New(1, 1)
	_, e1 := p.Knock(-1, "", src)
	_, e2 := p.Hear(-1, noise.Heard{}, src, -1)
	_, e3 := p.Seal(-1, nil)
	_, _, e4 := p.Open(-1, api.Message{}, -1)
	for _, e := range []api.Code{e1, e2, e3, e4, p.Finish(-1, "", api.Message{}, -1), p.Refused(-1, api.Message{})} {
		is(t, e, api.Nil)
	}
	b, ok := p.Take()
	p.Skip(1)
	if p.Stage([]byte{1}) || len(b) != 0 || ok || p.Staged() != 0 || len(p.Due(0)) != 0 || p.Erase() != 0 || p.GiveUp() != 0 || p.Knows(0) != 0 || p.Tired(0, 0) || p.Fresh(0) || p.Public() != "" || p.Endpoint() != 0 || len(p.Made()) != 0 {
		t.Error("a nil peer tells something")
	}
	if a, n := src.Left(); a != math.MaxUint32-1 || n != math.MaxUint32-1 {
		t.Error("something was taken")
	}
}
