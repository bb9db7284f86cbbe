package device_test

import (
	"bytes"
	"math"
	"slices"
	"strconv"
	"strings"
	"testing"

	"snicket/api"
	"snicket/device"
	"snicket/macs"
	"snicket/noise"
	"snicket/packet"
	"snicket/wire"
)

func is(t *testing.T, got, want api.Code) {
	t.Helper()
	if got != want {
		t.Errorf("the code is %d, not %d", got, want)
	}
}

func prefix(bits int, a ...byte) api.Prefix {
	return api.Prefix{Addr: a, Bits: bits}
}

// config is of the daemon n, which has the secret an, the address n and 10.n.0.0/16.
func config(n int) api.PeerConfig {
	return api.PeerConfig{Public: "p(a" + strconv.Itoa(n) + ")", Shared: "0", Allowed: []api.Prefix{prefix(16, 10, byte(n), 0, 0)}, Endpoint: n}
}

// of is the daemon n, which knows those others.
func of(t *testing.T, n int, others ...int) *device.Device {
	t.Helper()
	var l []api.PeerConfig
	for _, o := range others {
		l = append(l, config(o))
	}
	d, e := device.New("a"+strconv.Itoa(n), l, uint32(100*n), uint32(1000*n))
	if e != api.Fine || d == nil {
		t.Fatal(e)
	}
	return d
}

// pack is a packet from one daemon to another.
func pack(from, to int, data ...byte) []byte {
	b, _ := packet.Make([]byte{10, byte(from), 0, 1}, []byte{10, byte(to), 0, 1}, data)
	return b
}

// sent tells the one action, which has to be a Send there.
func sent(t *testing.T, l []api.Action, to int) api.Message {
	t.Helper()
	if len(l) != 1 || l[0].Kind != api.Send || l[0].To != to || l[0].Peer != 0 {
		t.Fatalf("the actions are %.300v", l)
	}
	m, e := wire.Read(l[0].Bytes)
	if e != api.Fine {
		t.Fatal(e)
	}
	return m
}

// pass hands the bytes of the only action over to another one.
func pass(t *testing.T, now int64, from int, to *device.Device, l []api.Action) ([]api.Action, api.Code) {
	t.Helper()
	if len(l) != 1 || l[0].Kind != api.Send {
		t.Fatalf("the actions are %.300v", l)
	}
	return to.Udp(now, from, l[0].Bytes)
}

// agree lets 1 begin with 2 by a packet, and tells the Transport's action.
func agree(t *testing.T, now int64, x, y *device.Device) []api.Action {
	t.Helper()
	l, e := x.Tun(now, pack(1, 2, 7))
	is(t, e, api.Wait)
	l, e = pass(t, now, 1, y, l)
	is(t, e, api.Fine)
	l, e = pass(t, now, 2, x, l)
	is(t, e, api.Fine)
	return l
}

// joined is two who have keys that were confirmed.
func joined(t *testing.T, now int64) (*device.Device, *device.Device) {
	t.Helper()
	x, y := of(t, 1, 2), of(t, 2, 1)
	l, e := pass(t, now, 1, y, agree(t, now, x, y))
	is(t, e, api.Fine)
	if len(l) != 1 || l[0].Kind != api.Write {
		t.Fatal(l)
	}
	return x, y
}

// P16.1: devices, and what can't be one.
func TestNew(t *testing.T) {
	many := func(n int) (l []api.PeerConfig) {
		for i := range n {
			l = append(l, config(i+2))
		}
		return l
	}
	with := func(f func(*api.PeerConfig)) []api.PeerConfig {
		l := many(2)
		f(&l[1])
		return l
	}
	long := func(n int) string { return "x" + strings.Repeat("0", n-1) }
	for i, c := range []struct {
		self string
		l    []api.PeerConfig
		want api.Code
	}{
		{"a1", nil, api.Fine}, {"a1", many(16), api.Fine}, {"0", many(3), api.Fine}, {long(199), nil, api.Fine}, {"p(" + long(197) + ")", nil, api.Fine},
		{"", nil, api.Form}, {"y", many(17), api.Form}, {long(300), nil, api.Form}, {"a1", many(17), api.Long}, {long(201), nil, api.Long}, {long(201), with(func(c *api.PeerConfig) { c.Public = "y" }), api.Long},
		{"a1", with(func(c *api.PeerConfig) { c.Public = "p(" + long(197) + ")" }), api.Fine}, {"a1", with(func(c *api.PeerConfig) { c.Public = "p(" + long(199) + ")" }), api.Long}, {"a1", with(func(c *api.PeerConfig) { c.Public = strings.Repeat("y", 201) }), api.Long},
		{"a1", with(func(c *api.PeerConfig) { c.Shared = long(199) }), api.Fine}, {"a1", with(func(c *api.PeerConfig) { c.Shared = "p(" + long(197) + ")" }), api.Fine}, {"a1", with(func(c *api.PeerConfig) { c.Shared = long(201) }), api.Long}, {"a1", with(func(c *api.PeerConfig) { c.Shared, c.Endpoint = "", -1 }), api.Form},
		{"a1", with(func(c *api.PeerConfig) { c.Public = "y" }), api.Form}, {"a1", with(func(c *api.PeerConfig) { c.Endpoint = -1 }), api.Arg}, {"a1", with(func(c *api.PeerConfig) { c.Allowed = []api.Prefix{{}} }), api.Form},
		{"a1", with(func(c *api.PeerConfig) { c.Public = "p(a2)" }), api.Known}, {"a1", with(func(c *api.PeerConfig) { c.Public = "p(a1)" }), api.Known}, {"a1", with(func(c *api.PeerConfig) { c.Public, c.Shared = "p(a2)", "" }), api.Form},
		{"a1", append(with(func(c *api.PeerConfig) { c.Public = "p(a2)" }), api.PeerConfig{Public: "p(a9)", Shared: "0", Endpoint: -1}), api.Arg},
	} {
		d, e := device.New(c.self, c.l, 1, 1)
		if e != c.want || (d == nil) != (e != api.Fine) {
			t.Errorf("%d: %d", i, e)
		}
	}
	d := of(t, 1, 3, 2)
	if d.Key() != "p(a1)" || d.Len() != 2 || d.Peer(0).Public() != "p(a3)" || d.Peer(1).Public() != "p(a2)" || d.Peer(1) != d.Peer(1) || d.Peer(1).Endpoint() != 2 {
		t.Error("it isn't as it was made")
	}
	for _, i := range []int{-1, 2, math.MaxInt, math.MinInt} {
		if d.Peer(i) != nil {
			t.Error("there is a peer", i)
		}
	}
}

// P16.2: a packet from above, till it is written.
func TestThree(t *testing.T) {
	x, y := of(t, 1, 2), of(t, 2, 1)
	l, e := x.Tun(5, append(pack(1, 2, 7, 8), 0, 0, 0))
	is(t, e, api.Wait)
	init := sent(t, l, 2)
	want, _, _ := noise.Begin("a1", "a100", "p(a2)", 5, 1000)
	want, _ = macs.Sign(want, "p(a2)", "")
	if init != want || x.Peer(0).Staged() != 1 {
		t.Error("the Init is", init)
	}
	l, e = pass(t, 6, 77, y, l)
	is(t, e, api.Fine)
	if r := sent(t, l, 77); r.Kind != api.Response || r.Sender != 2000 || r.Receiver != 1000 || r.Mac2 != "0" || !macs.First(r, "p(a1)") {
		t.Error("the Response is", r)
	}
	l, e = pass(t, 7, 88, x, l)
	is(t, e, api.Fine)
	m := sent(t, l, 88)
	if m.Kind != api.Transport || m.Receiver != 2000 || m.Counter != 0 || !strings.Contains(m.Data, ",x4500001600000000000000000a0100010a0200010708"+strings.Repeat("00", 10)+",") || x.Peer(0).Staged() != 0 {
		t.Error("the Transport is", m)
	}
	l, e = pass(t, 8, 99, y, l)
	is(t, e, api.Fine)
	if len(l) != 1 || l[0].Kind != api.Write || l[0].To != 0 || l[0].Peer != 0 || !bytes.Equal(l[0].Bytes, pack(1, 2, 7, 8)) || y.Peer(0).Endpoint() != 99 {
		t.Error(l)
	}
	l, e = y.Tun(9, pack(2, 1, 9))
	is(t, e, api.Fine)
	if m = sent(t, l, 99); m.Receiver != 1000 || m.Counter != 0 {
		t.Error(m)
	}
	l, e = pass(t, 9, 2, x, l)
	is(t, e, api.Fine)
	if len(l) != 1 || !bytes.Equal(l[0].Bytes, pack(2, 1, 9)) || x.Peer(0).Endpoint() != 2 {
		t.Error(l)
	}
}

// P16.2: packets that aren't taken from above, in the order of the errors.
func TestTun(t *testing.T) {
	d := of(t, 1, 2, 3)
	big := append(pack(1, 2), make([]byte, 1981)...)
	for i, c := range []struct {
		now  int64
		b    []byte
		want api.Code
	}{
		{-1, nil, api.Arg}, {api.MaxTime + 1, pack(1, 2), api.Arg}, {0, nil, api.Short}, {0, []byte{1}, api.Form}, {0, pack(1, 2)[:19], api.Short},
		{0, big, api.Long}, {0, append(pack(1, 9), make([]byte, 1981)...), api.Long}, {0, make([]byte, 3000), api.Form}, {0, pack(1, 4), api.Route}, {0, pack(1, 1), api.Route}, {0, pack(9, 0), api.Route},
	} {
		l, e := d.Tun(c.now, c.b)
		if is(t, e, c.want); len(l) != 0 || d.Peer(0).Staged()+d.Peer(1).Staged() != 0 {
			t.Errorf("%d: %v", i, l)
		}
	}
	l, e := d.Tun(0, big[:2000])
	is(t, e, api.Wait)
	sent(t, l, 2)
	if l, e = d.Tun(0, pack(9, 2)); e != api.Wait || len(l) != 0 || d.Peer(0).Staged() != 2 {
		t.Error("it is knocked at once more", l, e)
	}
	l, e = d.Tun(0, pack(1, 3))
	is(t, e, api.Wait)
	sent(t, l, 3)
	l, e = d.Tun(5000, pack(1, 2))
	is(t, e, api.Wait)
	if m := sent(t, l, 2); m.Sender != 1002 {
		t.Error(m)
	}
}

// P16.2: the ends of time.
func TestTimes(t *testing.T) {
	x, y := of(t, 1, 2), of(t, 2, 3, 1)
	l, e := x.Tun(api.MaxTime, pack(1, 2))
	is(t, e, api.Wait)
	l, e = pass(t, api.MaxTime, 1, y, l) // from the second one of its peers
	is(t, e, api.Fine)
	if sent(t, l, 1).Kind != api.Response || len(y.Peer(1).Made()) != 1 || len(y.Peer(0).Made()) != 0 {
		t.Error(l)
	}
	if _, e = x.Tick(api.MaxTime); e != api.Fine {
		t.Error(e)
	}
}

// P16.2: a peer of which it isn't known where it is.
func TestNowhere(t *testing.T) {
	c := config(2)
	c.Endpoint = 0
	x, _ := device.New("a1", []api.PeerConfig{c}, 100, 1000)
	l, e := x.Tun(0, pack(1, 2, 7))
	if is(t, e, api.None); len(l) != 0 || x.Peer(0).Staged() != 1 || x.Peer(0).Knows(1000) != 0 {
		t.Error("it is knocked at", l)
	}
	y := of(t, 2, 1)
	l, _ = y.Tun(0, pack(2, 1, 8))
	l, e = pass(t, 0, 2, x, l)
	is(t, e, api.Fine)
	l, e = pass(t, 0, 1, y, l)
	is(t, e, api.Fine)
	l, e = pass(t, 0, 2, x, l)
	is(t, e, api.Fine)
	if len(l) != 2 || l[0].Kind != api.Send || l[0].To != 2 || l[1].Kind != api.Write || !bytes.Equal(l[1].Bytes, pack(2, 1, 8)) {
		t.Error("what is staged isn't sent ahead of what is written:", l)
	}
	if l, e = y.Udp(1, 1, l[0].Bytes); e != api.Fine || !bytes.Equal(l[0].Bytes, pack(1, 2, 7)) {
		t.Error(l, e)
	}
}

// P16.2: knocking takes what the source has, and its code is told.
func TestSourceEnds(t *testing.T) {
	x, e := device.New("a1", []api.PeerConfig{config(2)}, math.MaxUint32, 1)
	is(t, e, api.Fine)
	l, e := x.Tun(0, pack(1, 2))
	if is(t, e, api.Limit); len(l) != 0 || x.Peer(0).Staged() != 1 {
		t.Error(l)
	}
	y := of(t, 2, 1)
	l, _ = y.Tun(0, pack(2, 1))
	l, e = pass(t, 0, 2, x, l)
	if is(t, e, api.Limit); len(l) != 0 {
		t.Error(l)
	}
	x.Load(true)
	l, _ = y.Tun(6000, pack(2, 1))
	l, e = pass(t, 6000, 2, x, l)
	if is(t, e, api.Limit); len(l) != 0 {
		t.Error(l)
	}
}

// P16.2: a Response to one without staged packets is confirmed by an empty packet.
func TestEmpty(t *testing.T) {
	x, y := joined(t, 0)
	l, e := x.Tun(120000, pack(1, 2, 1)) // tired: the packet, and then an Init
	is(t, e, api.Fine)
	if len(l) != 2 {
		t.Fatal(l)
	}
	if m, _ := wire.Read(l[0].Bytes); m.Kind != api.Transport {
		t.Error(m)
	}
	l, e = pass(t, 120000, 1, y, l[1:])
	is(t, e, api.Fine)
	l, e = pass(t, 120000, 2, x, l)
	is(t, e, api.Fine)
	m := sent(t, l, 2)
	if m.Kind != api.Transport || !strings.Contains(m.Data, ",x,") || m.Counter != 0 || m.Receiver != 2001 {
		t.Error(m)
	}
	l, e = pass(t, 120001, 1, y, l)
	if is(t, e, api.Fine); len(l) != 0 || !slices.Equal(y.Peer(0).Made(), []int64{0, 120000}) {
		t.Error(l)
	}
}

// P16.2: what is tired is knocked at: the beginner's, by age.
func TestTired(t *testing.T) {
	for _, c := range []struct {
		now  int64
		want int
		code api.Code
	}{{119999, 1, api.Fine}, {120000, 2, api.Fine}, {179999, 2, api.Fine}, {180000, 1, api.Wait}} {
		x, y := joined(t, 0)
		l, e := x.Tun(c.now, pack(1, 2, 1))
		if is(t, e, c.code); len(l) != c.want {
			t.Error(c.now, l)
		}
		if m, _ := wire.Read(l[len(l)-1].Bytes); (m.Kind == api.Init) != (c.now >= 120000) {
			t.Error(c.now, m)
		}
		l, e = y.Tun(c.now, pack(2, 1, 1))
		if is(t, e, c.code); len(l) != 1 {
			t.Error("a hearer is tired", l)
		}
	}
	x, y := joined(t, 0)
	x.Tun(120000, pack(1, 2, 1))
	if l, e := x.Tun(121000, pack(1, 2, 1)); e != api.Fine || len(l) != 1 {
		t.Error("it is knocked at too soon", l)
	}
	x, y = joined(t, 0)
	for _, c := range []struct {
		now  int64
		want int
	}{{164999, 1}, {165000, 2}, {170000, 2}} {
		back, _ := y.Tun(c.now, pack(2, 1, 1))
		l, e := pass(t, c.now, 2, x, back)
		if is(t, e, api.Fine); len(l) != c.want || l[0].Kind != api.Write {
			t.Error(c.now, l)
		}
		if m, _ := wire.Read(l[len(l)-1].Bytes); c.want == 2 && (m.Kind != api.Init || l[1].To != 2) {
			t.Error(c.now, l)
		}
	}
	l, _ := x.Tun(171000, pack(1, 2, 1))
	if l, e := pass(t, 171000, 1, y, l); e != api.Fine || len(l) != 1 {
		t.Error("a hearer is tired", l)
	}
}

// P16.2: empty packets, and such that aren't written, are looked at for age, too.
func TestTiredAll(t *testing.T) {
	x, y := joined(t, 0)
	back, e := y.Peer(0).Seal(165000, nil)
	is(t, e, api.Fine)
	b, _ := wire.Print(back)
	l, e := x.Udp(165000, 2, b)
	if is(t, e, api.Fine); sent(t, l, 2).Kind != api.Init {
		t.Error(l)
	}
	x, y = joined(t, 0)
	back, _ = y.Peer(0).Seal(165000, []byte{1})
	b, _ = wire.Print(back)
	l, e = x.Udp(165000, 2, b)
	if is(t, e, api.Form); sent(t, l, 2).Kind != api.Init {
		t.Error(l)
	}
	x, y = joined(t, 0)
	back, _ = y.Peer(0).Seal(165000, pack(3, 1))
	b, _ = wire.Print(back)
	l, e = x.Udp(165000, 2, b)
	if is(t, e, api.Source); sent(t, l, 2).Kind != api.Init {
		t.Error(l)
	}
}

// P16.2: what comes through the tunnel and isn't written.
func TestSource(t *testing.T) {
	x, y := of(t, 1, 2, 3), of(t, 2, 1)
	pass(t, 0, 1, y, agree(t, 0, x, y))
	for i, c := range []struct {
		b    []byte
		want api.Code
	}{{pack(2, 1), api.Fine}, {pack(2, 9), api.Fine}, {pack(3, 1), api.Source}, {pack(1, 2), api.Source}, {pack(9, 1), api.Source}, {[]byte{1}, api.Form}, {[]byte{69}, api.Short}, {make([]byte, 16), api.Form}} {
		m, e := y.Peer(0).Seal(1, packet.Pad(c.b, 16))
		is(t, e, api.Fine)
		b, _ := wire.Print(m)
		l, e := x.Udp(1, 50+i, b)
		if is(t, e, c.want); (len(l) == 1) != (e == api.Fine) || x.Peer(0).Endpoint() != 50+i {
			t.Error(i, l)
		}
		if len(l) == 1 && (l[0].Kind != api.Write || !bytes.Equal(l[0].Bytes, c.b) || l[0].Peer != 0) {
			t.Error(i, l)
		}
	}
}

// P16.2: whose an address is: the later one's.
func TestOwners(t *testing.T) {
	two, three := config(2), config(3)
	three.Allowed = append(three.Allowed, prefix(16, 10, 2, 9, 9), prefix(32, 10, 4, 0, 1))
	d, _ := device.New("a1", []api.PeerConfig{two, three}, 1, 1)
	l, _ := d.Tun(0, pack(1, 2))
	sent(t, l, 3)
	if d.Peer(0).Staged() != 0 || d.Peer(1).Staged() != 1 {
		t.Error("the former one has it")
	}
	d, _ = device.New("a1", []api.PeerConfig{three, two}, 1, 1)
	l, _ = d.Tun(0, pack(1, 2))
	sent(t, l, 2)
	l, _ = d.Tun(0, pack(1, 4))
	sent(t, l, 3)
}

// P16.2, P16.4: bytes from below that aren't taken, in the order of the errors.
func TestUdp(t *testing.T) {
	x, _ := joined(t, 0)
	z := of(t, 3, 1)
	message := func(m api.Message) []byte {
		b, e := wire.Print(m)
		is(t, e, api.Fine)
		return b
	}
	signed := func(m api.Message, to string) []byte {
		m, e := macs.Sign(m, to, "")
		is(t, e, api.Fine)
		return message(m)
	}
	good, _, _ := noise.Begin("a2", "a900", "p(a1)", 900, 9000)
	stranger, _, _ := noise.Begin("a3", "a900", "p(a1)", 900, 9000)
	elsewhere, _, _ := noise.Begin("a2", "a900", "p(a3)", 900, 9000)
	response := api.Message{Kind: api.Response, Sender: 5, Receiver: 1000, Eph: "p(a4)", Empty: "0", Mac1: "0", Mac2: "0"}
	old, _ := z.Tun(0, pack(3, 1))
	x.Tun(1000000, pack(1, 2)) // a handshake with the number 1001
	shaken := response
	shaken.Receiver = 1001
	was := [3]any{x.Peer(0).Endpoint(), x.Peer(0).Staged(), x.Peer(0).Knows(1001)}
	for i, c := range []struct {
		now  int64
		from int
		b    []byte
		want api.Code
	}{
		{-1, 1, nil, api.Arg}, {api.MaxTime + 1, 1, nil, api.Arg}, {0, 0, nil, api.Arg}, {0, -1, nil, api.Arg}, {0, math.MinInt, nil, api.Arg},
		{0, 1, nil, api.Short}, {0, 1, []byte{9}, api.Form}, {0, 1, append(message(good), 0), api.Long}, {0, 1, pack(2, 1), api.Form},
		{0, 1, message(good), api.Key}, {0, 1, signed(good, "p(a2)"), api.Key}, {0, 1, message(response), api.Key}, {0, 1, signed(response, "p(a2)"), api.Key}, {0, 1, old[0].Bytes[:9], api.Short},
		{0, 1, signed(elsewhere, "p(a1)"), api.Key}, {0, 1, signed(stranger, "p(a1)"), api.None}, {0, 1, old[0].Bytes, api.None},
		{0, 1, signed(response, "p(a1)"), api.None}, {0, 1, signed(shaken, "p(a1)"), api.Key},
		{0, 1, message(api.Message{Kind: api.CookieMsg, Receiver: 1000, Nonce: "n1", Cookie: "0"}), api.None}, {0, 1, message(api.Message{Kind: api.CookieMsg, Receiver: 7, Nonce: "n1", Cookie: "0"}), api.None},
		{0, 1, message(api.Message{Kind: api.CookieMsg, Receiver: 1001, Nonce: "0", Cookie: "0"}), api.Form}, {0, 1, message(api.Message{Kind: api.CookieMsg, Receiver: 1001, Nonce: "n1", Cookie: "0"}), api.Key},
		{0, 1, message(api.Message{Kind: api.Transport, Receiver: 1001, Data: "0"}), api.None}, {0, 1, message(api.Message{Kind: api.Transport, Receiver: 0, Data: "0"}), api.None}, {0, 1, message(api.Message{Kind: api.Transport, Receiver: 1000, Data: "0"}), api.Key}, {500000, 1, message(api.Message{Kind: api.Transport, Receiver: 1000, Data: "0"}), api.Limit},
	} {
		l, e := x.Udp(c.now, c.from, c.b)
		if is(t, e, c.want); len(l) != 0 {
			t.Errorf("%d: %.100v", i, l)
		}
		if now := [3]any{x.Peer(0).Endpoint(), x.Peer(0).Staged(), x.Peer(0).Knows(1001)}; now != was {
			t.Errorf("%d: something was changed: %v", i, now)
		}
	}
	l, e := x.Udp(0, 60, signed(good, "p(a1)"))
	is(t, e, api.Fine)
	if r := sent(t, l, 60); r.Receiver != 9000 || r.Sender != 1002 {
		t.Error(r)
	}
	if l, e = x.Udp(0, 61, signed(good, "p(a1)")); e != api.Stale || len(l) != 0 || x.Peer(0).Endpoint() != 60 {
		t.Error("an Init is answered twice", l)
	}
}

// P16.2: who is loaded refuses, and takes whoever has the cookie.
func TestLoad(t *testing.T) {
	x, y := of(t, 1, 2), of(t, 2, 1)
	y.Load(true)
	l, _ := x.Tun(0, pack(1, 2, 7))
	init := l
	l, e := pass(t, 10, 1, y, init)
	is(t, e, api.Load)
	m := sent(t, l, 1)
	asked, _ := wire.Read(init[0].Bytes)
	if want, _ := macs.Refuse(asked, "p(a2)", macs.Cookie("a200", 1), 0); m != want {
		t.Error("the refusal is", m)
	}
	again, e := pass(t, 119999, 9, y, init)
	is(t, e, api.Load)
	if want, _ := macs.Refuse(asked, "p(a2)", macs.Cookie("a200", 9), 1); sent(t, again, 9) != want {
		t.Error("the refusal is", sent(t, again, 9))
	}
	l, e = pass(t, 20, 2, x, l)
	if is(t, e, api.Fine); len(l) != 0 {
		t.Error(l)
	}
	l, e = x.Tun(5000, pack(1, 2, 8))
	is(t, e, api.Wait)
	signed := sent(t, l, 2)
	if !macs.Second(signed, macs.Cookie("a200", 1)) {
		t.Error("it isn't signed by the cookie")
	}
	if elsewhere, e := pass(t, 5000, 5, y, l); e != api.Load || len(elsewhere) != 1 {
		t.Error("a cookie counts for another address", e)
	}
	l, e = pass(t, 5000, 1, y, l)
	is(t, e, api.Fine)
	x.Load(true)
	l, e = pass(t, 5000, 2, x, l)
	is(t, e, api.Load)
	refused := sent(t, l, 2)
	if refused.Kind != api.CookieMsg || refused.Receiver != 2000 || refused.Nonce != "n0" {
		t.Error("a Response is taken:", refused)
	}
	if l, e = pass(t, 5000, 1, y, l); e != api.None || len(l) != 0 {
		t.Error("who has no handshake takes a cookie", e)
	}
	x.Load(false)
	l, _ = x.Tun(10000, pack(1, 2, 9))
	l, e = pass(t, 10000, 1, y, l)
	is(t, e, api.Fine)
	if l, e = pass(t, 10000, 2, x, l); e != api.Fine || len(l) != 3 {
		t.Error("three packets waited", e, l)
	}
}

// P16.2: secrets for cookies grow old.
func TestSecrets(t *testing.T) {
	x, y := of(t, 1, 2), of(t, 2, 1)
	y.Load(true)
	l, _ := x.Tun(0, pack(1, 2, 7))
	asked, _ := wire.Read(l[0].Bytes)
	for i, c := range []struct {
		now    int64
		secret string
	}{{1000, "a200"}, {120999, "a200"}, {0, "a200"}, {121000, "a201"}, {240999, "a201"}, {500000, "a202"}, {400000, "a202"}} {
		got, e := pass(t, c.now, 1, y, l)
		is(t, e, api.Load)
		if want, _ := macs.Refuse(asked, "p(a2)", macs.Cookie(c.secret, 1), uint64(i)); sent(t, got, 1) != want {
			t.Error(c.now, sent(t, got, 1))
		}
	}
	y.Load(false)
	got, e := pass(t, 900000, 1, y, l)
	is(t, e, api.Fine)
	if r := sent(t, got, 1); r.Eph != "p(a203)" {
		t.Error("who isn't loaded takes a secret for cookies", r)
	}
	bad := asked
	bad.Mac1 = "0"
	b, _ := wire.Print(bad)
	y = of(t, 2, 1)
	y.Load(true)
	if got, e := y.Udp(0, 1, b); e != api.Key || len(got) != 0 {
		t.Error("a wrong first sum is refused", e)
	}
	got, _ = pass(t, 0, 1, y, l)
	if want, _ := macs.Refuse(asked, "p(a2)", macs.Cookie("a200", 1), 0); sent(t, got, 1) != want {
		t.Error("a wrong first sum takes something")
	}
}

// P16.2: where macs.Refuse tells a code nothing is sent, and the number stays.
func TestRefuseNone(t *testing.T) {
	x, y := of(t, 1, 2), of(t, 2, 1)
	y.Load(true)
	m := api.Message{Kind: api.Init, Eph: "p(a1)", Static: "x" + strings.Repeat("00", 32738), Stamp: "0", Mac1: "0", Mac2: "0"}
	m, e := macs.Sign(m, "p(a2)", "")
	is(t, e, api.Fine)
	b, _ := wire.Print(m)
	l, e := y.Udp(0, 1, b)
	if is(t, e, api.Load); len(l) != 0 {
		t.Error("something is sent")
	}
	l, _ = x.Tun(0, pack(1, 2, 7))
	asked, _ := wire.Read(l[0].Bytes)
	l, _ = pass(t, 0, 1, y, l)
	if want, _ := macs.Refuse(asked, "p(a2)", macs.Cookie("a200", 1), 0); sent(t, l, 1) != want {
		t.Error(sent(t, l, 1))
	}
}

// tick tells the kinds of messages that are sent at a tick.
func tick(t *testing.T, d *device.Device, now int64, want ...int) []api.Action {
	t.Helper()
	l, e := d.Tick(now)
	is(t, e, api.Fine)
	var got []int
	for _, a := range l {
		m, _ := wire.Read(a.Bytes)
		got = append(got, m.Kind)
	}
	if !slices.Equal(got, want) {
		t.Errorf("sent at %d are %v, not %v", now, got, want)
	}
	return l
}

// P16.2: what is due is done.
func TestTick(t *testing.T) {
	x, y := joined(t, 0)
	tick(t, y, 9999)
	l := tick(t, y, 10000, api.Transport)
	if m := sent(t, l, 1); !strings.Contains(m.Data, ",x,") {
		t.Error(m)
	}
	tick(t, y, 20000)
	tick(t, x, 14999)
	tick(t, x, 15000, api.Init)
	tick(t, x, 19999)
	tick(t, x, 20000, api.Init)
	tick(t, x, 25000, api.Init)
	x.Peer(0).Stage([]byte{1})
	tick(t, x, 104999, api.Init)
	tick(t, x, 105000)
	if x.Peer(0).Staged() != 0 || x.Peer(0).Knows(1000) != 1 {
		t.Error("it isn't given up")
	}
	tick(t, x, 539999)
	if len(x.Peer(0).Made()) != 1 {
		t.Error("keys go too early")
	}
	tick(t, x, 540000)
	if len(x.Peer(0).Made()) != 0 {
		t.Error("keys stay")
	}
	if l, e := x.Tick(-1); e != api.Arg || len(l) != 0 {
		t.Error(l, e)
	}
	if l, e := x.Tick(api.MaxTime + 1); e != api.Arg || len(l) != 0 {
		t.Error(l, e)
	}
}

// P16.2: each peer in order; what was due ahead of all that is done.
func TestTickAll(t *testing.T) {
	x := of(t, 1, 4, 2, 3)
	for _, to := range []int{3, 2, 4} {
		x.Tun(0, pack(1, to))
	}
	var to []int
	for _, a := range tick(t, x, 5000, api.Init, api.Init, api.Init) {
		to = append(to, a.To)
	}
	if !slices.Equal(to, []int{4, 2, 3}) {
		t.Error("it is sent to", to)
	}
	x, _ = joined(t, 0)
	x.Tick(15000) // silence: a handshake of then
	x.Peer(0).Stage([]byte{1})
	x.Tick(80000)
	tick(t, x, 540000)
	if x.Peer(0).Staged() != 0 || len(x.Peer(0).Made()) != 0 {
		t.Error("both erased and given up")
	}
	x, y := joined(t, 0)
	back, _ := y.Tun(0, pack(2, 1, 3))
	pass(t, 0, 2, x, back)
	x.Tun(530000, pack(1, 2))
	tick(t, x, 540000, api.Init) // Erase takes the handshake; Retry was due all the same
}

// P16.2: to nowhere nothing is sent; what is ahead of sending is done.
func TestTickNowhere(t *testing.T) {
	x, y := joined(t, 0)
	m, _ := y.Peer(0).Seal(0, pack(2, 1))
	if _, _, e := x.Peer(0).Open(0, m, 0); e != api.Fine {
		t.Fatal(e)
	}
	tick(t, x, 10000)
	if len(x.Peer(0).Due(10000)) != 0 {
		t.Error("the empty packet wasn't sealed")
	}
	if _, e := x.Peer(0).Seal(0, []byte{1}); e != api.Fine {
		t.Fatal(e)
	}
	tick(t, x, 15000)
	if x.Peer(0).Knows(1001) != 2 {
		t.Error("it isn't knocked")
	}
}

// P16.2: one that isn't sealed is lost; all others go.
func TestLost(t *testing.T) {
	x, y := joined(t, 0)
	x.Skip(0, api.MaxCount-2)
	for _, data := range []byte{1, 2, 3} {
		x.Peer(0).Stage(pack(1, 2, data))
	}
	l, e := x.Tun(1, pack(1, 2, 4))
	if is(t, e, api.Fine); len(l) != 2 || x.Peer(0).Staged() != 0 {
		t.Error(l)
	}
	for i, a := range l {
		if got, e := y.Udp(1, 1, a.Bytes); e != api.Fine || !bytes.Equal(got[0].Bytes, pack(1, 2, byte(i+1))) {
			t.Error(i, got, e)
		}
	}
	l, e = x.Tun(2, pack(1, 2, 5))
	if is(t, e, api.Wait); sent(t, l, 2).Kind != api.Init {
		t.Error(l)
	}
}

// P16.3: counters.
func TestSkip(t *testing.T) {
	x, _ := joined(t, 0)
	is(t, x.Skip(0, 77), api.Fine)
	is(t, x.Skip(0, 3), api.Fine)
	for _, i := range []int{1, -1, math.MaxInt} {
		is(t, x.Skip(i, 99), api.None)
	}
	l, _ := x.Tun(1, pack(1, 2))
	if m := sent(t, l, 2); m.Counter != 77 {
		t.Error(m.Counter)
	}
	is(t, of(t, 1, 2).Skip(0, 5), api.Fine)
}

// R4: what is handed in isn't changed, and what is told isn't kept.
func TestOwn(t *testing.T) {
	c := []api.PeerConfig{config(2)}
	x, _ := device.New("a1", c, 100, 1000)
	c[0].Public = "p(a9)"
	c[0].Allowed[0].Addr[1] = 9
	b := pack(1, 2, 7)
	l, e := x.Tun(0, b)
	is(t, e, api.Wait)
	b[20] = 99
	init := bytes.Clone(l[0].Bytes)
	y := of(t, 2, 1)
	l, _ = y.Udp(0, 1, l[0].Bytes)
	clear(init)
	l, _ = pass(t, 0, 2, x, l)
	in := bytes.Clone(l[0].Bytes)
	out, e := y.Udp(0, 1, in)
	if is(t, e, api.Fine); !bytes.Equal(in, l[0].Bytes) || !bytes.Equal(out[0].Bytes, pack(1, 2, 7)) {
		t.Error("what was handed in is kept, or was changed")
	}
}

// R1: a nil device.
func TestNil(t *testing.T) {
	var d *device.Device
	d.Load(true)
	l1, e1 := d.Tun(-1, nil)
	l2, e2 := d.Udp(-1, -1, nil)
	l3, e3 := d.Tick(-1)
	if len(l1)+len(l2)+len(l3) != 0 || e1 != api.Nil || e2 != api.Nil || e3 != api.Nil || d.Key() != "" || d.Len() != 0 || d.Peer(0) != nil || d.Skip(0, 0) != api.Nil || d.Skip(-1, 0) != api.Nil {
		t.Error("a nil device tells something")
	}
}
