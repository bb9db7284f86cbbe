package world_test

import (
	"bytes"
	"math"
	"slices"
	"strconv"
	"strings"
	"testing"

	"snicket/api"
	"snicket/packet"
	"snicket/wire"
	"snicket/world"
)

func of(t *testing.T, n int, shared string) *world.World {
	t.Helper()
	w, e := world.New(n, shared)
	if e != api.Fine || w == nil {
		t.Fatal(n, shared, e)
	}
	return w
}

// do does acts, and looks at their codes.
func do(t *testing.T, w *world.World, a world.Act, want api.Code) {
	t.Helper()
	if e := w.Do(a); e != want {
		t.Errorf("%v: the code is %d, not %d", a, e, want)
	}
}

func pack(from, to int, data ...byte) []byte {
	b, _ := packet.Make([]byte{10, byte(from), 0, 1}, []byte{10, byte(to), 0, 1}, data)
	return b
}

func tun(at, n int, data ...byte) world.Act {
	return world.Act{Kind: world.Tun, At: at, N: n, Bytes: data}
}

func deliver(n int) world.Act {
	return world.Act{Kind: world.Deliver, N: n}
}

func wait(n int) world.Act {
	return world.Act{Kind: world.Wait, N: n}
}

// message tells the message of a datagram.
func message(t *testing.T, w *world.World, i int) api.Message {
	t.Helper()
	d, ok := w.Air().At(i)
	m, e := wire.Read(d.Bytes)
	if !ok || e != api.Fine {
		t.Fatal(i, ok, e)
	}
	return m
}

// told is records as texts.
func told(w *world.World) string {
	var out []string
	for _, r := range w.Records() {
		out = append(out, []string{"", "taken", "written"}[r.Kind]+strconv.Itoa(r.At)+strconv.Itoa(r.Peer)+"@"+strconv.FormatInt(r.Now, 10)+"#"+strconv.Itoa(int(r.Bytes[len(r.Bytes)-1])))
	}
	return strings.Join(out, " ")
}

// P18.1: which worlds there are, and what a new one tells.
func TestNew(t *testing.T) {
	long := func(n int) string { return "x" + strings.Repeat("0", n-1) }
	for i, c := range []struct {
		n      int
		shared string
		want   api.Code
	}{
		{2, "", api.Fine}, {8, "0", api.Fine}, {3, long(199), api.Fine}, {3, "p(" + long(197) + ")", api.Fine},
		{1, "", api.Arg}, {9, "", api.Arg}, {0, "y", api.Arg}, {-1, "", api.Arg}, {math.MaxInt, "", api.Arg}, {2, "y", api.Form}, {2, strings.Repeat("y", 300), api.Form}, {2, long(201), api.Long}, {2, "p(" + long(199) + ")", api.Long},
	} {
		if w, e := world.New(c.n, c.shared); e != c.want || (w == nil) != (e != api.Fine) {
			t.Errorf("%d: %d", i, e)
		}
	}
	w := of(t, 3, "")
	if w.Now() != 0 || w.Len() != 3 || w.Air().Len() != 0 || len(w.Records()) != 0 || w.Air() != w.Air() {
		t.Error("it isn't new")
	}
	for i := range 3 {
		d := w.Device(i)
		if _, ok := w.Revealed(i); w.Address(i) != i+1 || ok || d != w.Device(i) || d.Key() != "p(a"+strconv.Itoa(i+1)+")" || d.Len() != 2 || !w.Air().Knows(d.Key()) || w.Air().Knows("a"+strconv.Itoa(i+1)) {
			t.Error("the device", i)
		}
		for place := range 2 {
			j := place
			if j >= i {
				j++
			}
			if p := d.Peer(place); p.Public() != "p(a"+strconv.Itoa(j+1)+")" || p.Endpoint() != j+1 {
				t.Error("the peer", i, place)
			}
		}
	}
	for _, i := range []int{-1, 3, math.MaxInt, math.MinInt} {
		if at, ok := w.Revealed(i); w.Device(i) != nil || w.Address(i) != 0 || at != 0 || ok {
			t.Error("there is a device", i)
		}
	}
	if w.Air().Had() != 3 {
		t.Error("the listener has", w.Air().Had())
	}
}

// P18.1: whose addresses are whose.
func TestPrefixes(t *testing.T) {
	w := of(t, 3, "")
	for _, c := range []struct {
		to   []byte
		want int
	}{{[]byte{10, 1, 0, 0}, 2}, {[]byte{10, 1, 255, 255}, 2}, {[]byte{10, 1, 128, 7}, 2}, {[]byte{10, 2, 64, 1}, 3}, {[]byte{10, 0, 0, 1}, 0}, {[]byte{10, 3, 0, 1}, 0}, {[]byte{11, 1, 0, 1}, 0}} {
		b, _ := packet.Make([]byte{10, 0, 0, 1}, c.to, nil)
		l, e := w.Device(0).Tun(0, b)
		if (e == api.Route) != (c.want == 0) || len(l) > 0 && l[0].To != c.want {
			t.Error(c, l, e)
		}
	}
}

// P18.1: what is shared is shared by all, and the listener has its sum.
func TestShared(t *testing.T) {
	for _, q := range []string{"0", "a77", "h(a77,x00)"} {
		w := of(t, 2, q)
		if w.Air().Had() != 3 || !w.Air().Knows("h("+q+")") || q != "0" && w.Air().Knows(q) {
			t.Error("the listener has", w.Air().Had())
		}
		for i, e := range w.Run([]world.Act{tun(0, 1, 7), deliver(0), deliver(1), deliver(2)}) {
			if e != []api.Code{api.Wait, 0, 0, 0}[i] {
				t.Error(q, i, e)
			}
		}
		m := message(t, w, 1)
		if !strings.Contains(m.Empty, ","+q+"),0,h(") {
			t.Error("the Response hasn't what is shared:", m)
		}
	}
}

// P18.1: a packet from 0 to 1, datagram by datagram.
func TestThree(t *testing.T) {
	w := of(t, 2, "")
	do(t, w, wait(5), api.Fine)
	do(t, w, tun(0, 1, 7), api.Wait)
	if d, ok := w.Air().At(0); !ok || d.From != 1 || d.To != 2 || w.Air().Len() != 1 || message(t, w, 0).Sender != 1000 || message(t, w, 0).Eph != "p(a1000)" {
		t.Error("the Init is", d)
	}
	do(t, w, deliver(0), api.Fine)
	if m := message(t, w, 1); m.Sender != 2000 || m.Eph != "p(a2000)" {
		t.Error("the Response is", m)
	}
	do(t, w, deliver(1), api.Fine)
	do(t, w, wait(3), api.Fine)
	do(t, w, deliver(2), api.Fine)
	if w.Air().Len() != 3 || told(w) != "taken01@5#7 written10@8#7" || w.Now() != 8 {
		t.Error(told(w))
	}
	for _, r := range w.Records() {
		if !bytes.Equal(r.Bytes, pack(0, 1, 7)) {
			t.Error(r)
		}
	}
	do(t, w, deliver(2), api.Stale)
	do(t, w, deliver(0), api.Stale)
	if d, _ := w.Air().At(2); d.Delivered != 2 || len(w.Records()) != 2 {
		t.Error("delivered", d.Delivered)
	}
}

// P18.1: who is whose peer, in records of all.
func TestAll(t *testing.T) {
	const n = 4
	w := of(t, n, "")
	want := map[string]bool{}
	for i := range n {
		for j := range n {
			if i == j {
				continue
			}
			at := w.Air().Len()
			if e := w.Do(tun(i, j, byte(16*i+j))); e != api.Wait && e != api.Fine {
				t.Error(i, j, e)
			}
			for ; at < w.Air().Len(); at++ {
				do(t, w, deliver(at), api.Fine)
			}
			want["taken"+strconv.Itoa(i)+strconv.Itoa(j)+"@0#"+strconv.Itoa(16*i+j)] = true
			want["written"+strconv.Itoa(j)+strconv.Itoa(i)+"@0#"+strconv.Itoa(16*i+j)] = true
		}
	}
	for _, s := range strings.Fields(told(w)) {
		if !want[s] {
			t.Error(s, "is told")
		}
		delete(want, s)
	}
	if len(want) != 0 {
		t.Error(want, "aren't told")
	}
}

// P18.1: codes, in their order.
func TestCodes(t *testing.T) {
	w := of(t, 2, "")
	do(t, w, tun(0, 1, 7), api.Wait)
	had := w.Air().Had()
	secretly, _ := wire.Print(api.Message{Kind: api.Transport, Data: "a77"})
	for _, c := range []struct {
		a    world.Act
		want api.Code
	}{
		{world.Act{}, api.Arg}, {world.Act{Kind: -1}, api.Arg}, {world.Act{Kind: 9, At: 7}, api.Arg}, {world.Act{Kind: math.MaxInt}, api.Arg}, {world.Act{Kind: math.MinInt}, api.Arg},
		{tun(2, 1), api.None}, {tun(-1, 999), api.None}, {tun(0, -1), api.Arg}, {tun(0, 256), api.Arg}, {tun(0, 256, make([]byte, 3000)...), api.Arg}, {tun(0, 1, make([]byte, 1981)...), api.Long}, {tun(0, 9, make([]byte, 1981)...), api.Long},
		{tun(0, 2), api.Route}, {tun(0, 255), api.Route}, {tun(0, 0), api.Route}, {tun(1, 1), api.Route},
		{deliver(1), api.None}, {deliver(-1), api.None}, {deliver(math.MaxInt), api.None}, {world.Act{Kind: world.Deliver, N: 1, At: 1, From: 5}, api.None},
		{world.Act{Kind: world.Redirect, At: 2, N: 0, From: 1}, api.None}, {world.Act{Kind: world.Redirect, At: 1, N: 1, From: 0}, api.None}, {world.Act{Kind: world.Redirect, At: 1, N: -1, From: 1}, api.None}, {world.Act{Kind: world.Redirect, At: 1, N: 0, From: 0}, api.Arg}, {world.Act{Kind: world.Redirect, At: 1, From: -5}, api.Arg},
		{world.Act{Kind: world.Forge, At: 2, From: 0}, api.None}, {world.Act{Kind: world.Forge, At: 0, From: 0}, api.Arg}, {world.Act{Kind: world.Forge, At: 0, From: math.MinInt}, api.Arg}, {world.Act{Kind: world.Forge, At: 0, Bytes: secretly}, api.Arg}, {world.Act{Kind: world.Forge, At: 0, From: 1, Bytes: secretly}, api.Key}, {world.Act{Kind: world.Forge, At: 2, Bytes: secretly}, api.None},
		{wait(0), api.Arg}, {wait(-1), api.Arg}, {wait(1000001), api.Arg}, {wait(math.MaxInt), api.Arg},
		{world.Act{Kind: world.Move, At: 5, From: 0}, api.None}, {world.Act{Kind: world.Move, At: 1, From: 0}, api.Arg}, {world.Act{Kind: world.Move, At: 1, From: -1}, api.Arg}, {world.Act{Kind: world.Move, At: 1, From: 1}, api.Known},
		{world.Act{Kind: world.Reveal, At: 2}, api.None}, {world.Act{Kind: world.Reveal, At: -1}, api.None}, {world.Act{Kind: world.Load, At: 2}, api.None}, {world.Act{Kind: world.Load, At: -1, N: 1}, api.None},
	} {
		do(t, w, c.a, c.want)
	}
	d, _ := w.Air().At(0)
	if w.Air().Len() != 1 || d.Delivered != 0 || len(w.Records()) != 1 || w.Now() != 0 || w.Air().Had() != had || w.Address(1) != 2 || w.Device(0).Peer(0).Staged() != 1 {
		t.Error("what was refused changed something")
	}
}

// P18.1: to whom a datagram comes, and from where.
func TestDeliver(t *testing.T) {
	w := of(t, 3, "")
	do(t, w, tun(0, 1, 7), api.Wait)
	do(t, w, world.Act{Kind: world.Move, At: 1, From: 9}, api.Fine)
	do(t, w, deliver(0), api.None)
	if d, _ := w.Air().At(0); d.Delivered != 0 || w.Address(1) != 9 {
		t.Error("it was delivered")
	}
	do(t, w, world.Act{Kind: world.Move, At: 2, From: 2}, api.Fine)
	do(t, w, deliver(0), api.Key)
	if d, _ := w.Air().At(0); d.Delivered != 1 {
		t.Error("it wasn't delivered")
	}
	do(t, w, world.Act{Kind: world.Redirect, At: 1, N: 0, From: 55}, api.Fine)
	d, _ := w.Air().At(1)
	if first, _ := w.Air().At(0); first.Delivered != 2 || d.From != 9 || d.To != 55 || w.Device(1).Peer(0).Endpoint() != 55 {
		t.Error(d)
	}
	do(t, w, deliver(1), api.None)
	do(t, w, world.Act{Kind: world.Move, At: 0, From: 55}, api.Fine)
	do(t, w, deliver(1), api.Fine)
	if d, _ = w.Air().At(2); d.From != 55 || d.To != 9 || w.Device(0).Peer(0).Endpoint() != 9 {
		t.Error(d)
	}
	do(t, w, world.Act{Kind: world.Move, At: 0, From: 55}, api.Fine)
	do(t, w, world.Act{Kind: world.Move, At: 0, From: math.MaxInt}, api.Fine)
	do(t, w, deliver(2), api.Fine)
	if told(w) != "taken01@0#7 written10@0#7" {
		t.Error(told(w))
	}
}

// P18.1: what the listener can make comes.
func TestForge(t *testing.T) {
	w := of(t, 2, "")
	for range 2 {
		w.Do(tun(0, 1, 7))
	}
	for i := range 3 {
		do(t, w, deliver(i), api.Fine)
	}
	d, _ := w.Air().At(2)
	do(t, w, world.Act{Kind: world.Forge, At: 1, From: 9, Bytes: d.Bytes}, api.Stale)
	do(t, w, world.Act{Kind: world.Forge, At: 1, From: 9}, api.Short)
	do(t, w, world.Act{Kind: world.Forge, At: 1, From: 9, Bytes: []byte("bytes")}, api.Form)
	m := message(t, w, 2)
	m.Counter = 7
	m.Data = "s(7" + strings.TrimPrefix(m.Data, "s(0")
	b, _ := wire.Print(m)
	do(t, w, world.Act{Kind: world.Forge, At: 1, From: 9, Bytes: b}, api.Key)
	if w.Device(1).Peer(0).Endpoint() != 1 {
		t.Error("it comes")
	}
	for _, s := range []string{"a1000", "a1"} { // with both the keys can be made
		w.Air().Tell(s)
	}
	do(t, w, world.Act{Kind: world.Forge, At: 1, From: 9, Bytes: b}, api.Fine)
	if w.Device(1).Peer(0).Endpoint() != 9 || told(w) != "taken01@0#7 taken01@0#7 written10@0#7 written10@0#7" {
		t.Error(told(w))
	}
}

// P18.1: time goes on, and all devices tick, in order.
func TestWait(t *testing.T) {
	w := of(t, 3, "")
	do(t, w, tun(2, 0, 7), api.Wait)
	do(t, w, tun(0, 1, 7), api.Wait)
	do(t, w, wait(4999), api.Fine)
	if w.Air().Len() != 2 || w.Now() != 4999 {
		t.Error("it is retried too early")
	}
	do(t, w, wait(1), api.Fine)
	if d, _ := w.Air().At(2); w.Air().Len() != 4 || d.From != 1 || d.To != 2 {
		t.Error("it isn't retried in order", d)
	}
	do(t, w, wait(1000000), api.Fine)
	if w.Now() != 1005000 || w.Device(0).Peer(0).Staged() != 0 {
		t.Error("it isn't given up")
	}
}

// P18.1: when secrets were revealed.
func TestReveal(t *testing.T) {
	w := of(t, 2, "")
	do(t, w, wait(7), api.Fine)
	do(t, w, world.Act{Kind: world.Reveal, At: 1}, api.Fine)
	do(t, w, wait(7), api.Fine)
	do(t, w, world.Act{Kind: world.Reveal, At: 1}, api.Fine)
	if at, ok := w.Revealed(1); at != 7 || !ok || !w.Air().Knows("a2") || w.Air().Knows("a1") {
		t.Error(at, ok)
	}
	if at, ok := w.Revealed(0); at != 0 || ok {
		t.Error(at, ok)
	}
}

// P18.1: who is loaded.
func TestLoad(t *testing.T) {
	w := of(t, 2, "")
	do(t, w, tun(0, 1, 7), api.Wait)
	for _, c := range []struct {
		n    int
		want bool
	}{{1, true}, {0, false}, {-1, true}, {-2, false}, {7, true}, {math.MaxInt, true}, {math.MinInt, false}, {math.MinInt + 1, true}, {2, false}} {
		do(t, w, world.Act{Kind: world.Load, At: 1, N: c.n}, api.Fine)
		if e := w.Do(deliver(0)); (e == api.Load) != c.want {
			t.Error(c.n, e)
		}
	}
	if m := message(t, w, 1); m.Kind != api.CookieMsg {
		t.Error(m)
	}
}

// P18.1: packets that are taken without keys, and to nowhere.
func TestTaken(t *testing.T) {
	w := of(t, 2, "")
	do(t, w, tun(0, 1), api.Wait)
	do(t, w, tun(0, 1, 1), api.Wait)
	do(t, w, tun(0, 5, 2), api.Route)
	if l := w.Records(); len(l) != 2 || !bytes.Equal(l[0].Bytes, pack(0, 1)) {
		t.Error(l)
	}
	p := w.Device(0).Peer(0)
	for i := range 2 {
		do(t, w, deliver(i), api.Fine)
	}
	m, e := w.Device(1).Peer(0).Seal(0, nil)
	if e == api.Fine {
		t.Fatal(m)
	}
	do(t, w, deliver(2), api.Fine)
	m, e = w.Device(1).Peer(0).Seal(0, nil)
	if e != api.Fine {
		t.Fatal(e)
	}
	if _, _, e = p.Open(0, m, 0); e != api.Fine || p.Endpoint() != 0 {
		t.Fatal(e)
	}
	do(t, w, tun(0, 1, 9), api.None)
	if l := w.Records(); l[len(l)-1].Kind != world.Taken || l[len(l)-1].Bytes[20] != 9 {
		t.Error(told(w))
	}
}

// R4: what is handed in, or told, isn't kept.
func TestOwn(t *testing.T) {
	w := of(t, 2, "")
	data := []byte{7}
	do(t, w, world.Act{Kind: world.Tun, At: 0, N: 1, Bytes: data}, api.Wait)
	data[0] = 8
	w.Records()[0].Bytes[20] = 9
	l := w.Records()
	l[0].At = 5
	for i := range 3 {
		do(t, w, deliver(i), api.Fine)
	}
	if told(w) != "taken01@0#7 written10@0#7" {
		t.Error(told(w))
	}
	if w.Run(nil) != nil && len(w.Run(nil)) != 0 {
		t.Error("no acts have codes")
	}
}

// R1: no world.
func TestNil(t *testing.T) {
	var w *world.World
	at, ok := w.Revealed(0)
	if w.Do(world.Act{}) != api.Nil || w.Do(wait(1)) != api.Nil || !slices.Equal(w.Run(make([]world.Act, 3)), []api.Code{api.Nil, api.Nil, api.Nil}) || w.Now() != 0 || w.Len() != 0 || w.Air() != nil || w.Device(0) != nil || w.Address(0) != 0 || len(w.Records()) != 0 || at != 0 || ok {
		t.Error("no world tells something")
	}
}
