// Package whole looks at what the whole program promises: T1 to T6.
package whole

import (
	"bytes"
	"slices"
	"strconv"
	"strings"
	"testing"

	"snicket/air"
	"snicket/api"
	"snicket/books"
	"snicket/dump"
	"snicket/reuse"
	"snicket/roam"
	"snicket/script"
	"snicket/settle"
	"snicket/sky"
	"snicket/term"
	"snicket/wire"
	"snicket/world"
)

// random tells numbers from a seed on.
type random uint64

func (r *random) next(n int) int {
	*r = *r*6364136223846793005 + 1442695040888963407
	return int(*r>>33) % n
}

// of is a new world.
func of(t *testing.T, n int, shared string) *world.World {
	t.Helper()
	w, e := world.New(n, shared)
	if e != api.Fine {
		t.Fatal(e)
	}
	return w
}

// act is any act in a world, of somebody who rules the air.
func (r *random) act(w *world.World) world.Act {
	n, sent := w.Len(), w.Air().Len()
	at := r.next(n)
	switch k := r.next(100); {
	case k < 25:
		return world.Act{Kind: world.Tun, At: at, N: r.next(n), Bytes: []byte{byte(r.next(4)), byte(r.next(4))}}
	case k < 70: // mostly something new that can come
		for i := range sent {
			if d, _ := w.Air().At(i); d.Delivered == 0 && somebody(w, d.To) && r.next(4) > 0 {
				return world.Act{Kind: world.Deliver, N: i}
			}
		}
		return world.Act{Kind: world.Deliver, N: r.next(sent + 1)}
	case k < 74:
		return world.Act{Kind: world.Redirect, At: at, N: r.next(sent + 1), From: r.next(n + 3)}
	case k < 85:
		return world.Act{Kind: world.Forge, At: at, From: 1 + r.next(n+3), Bytes: r.forgery(w)}
	case k < 96:
		return world.Act{Kind: world.Wait, N: []int{1, 250, 1000, 5000, 10000, 30000}[r.next(6)]}
	case k < 98:
		return world.Act{Kind: world.Move, At: at, From: 1 + r.next(n+3)}
	}
	return world.Act{Kind: world.Load, At: at, N: r.next(4) / 3}
}

// somebody tells whether a device has that address.
func somebody(w *world.World, address int) bool {
	for i := range w.Len() {
		if w.Address(i) == address {
			return true
		}
	}
	return false
}

// forgery is bytes put together of what was sent.
func (r *random) forgery(w *world.World) []byte {
	var l []api.Message
	for range 2 {
		d, _ := w.Air().At(r.next(w.Air().Len() + 1))
		if m, e := wire.Read(d.Bytes); e == api.Fine {
			l = append(l, m)
		}
	}
	if len(l) < 2 {
		return []byte{1, 0}
	}
	m, o := l[0], l[1]
	switch r.next(6) {
	case 0:
		m.Receiver = o.Receiver
	case 1:
		m.Counter += uint64(r.next(5))
	case 2:
		m.Data = o.Data
	case 3:
		m.Eph, m.Static = o.Eph, o.Static
	case 4:
		m.Sender++
	case 5: // another packet, sealed by the same key
		if p := term.Parts(m.Data); term.Kind(m.Data) == term.Seal {
			m.Counter += 1000
			m.Data = term.Make(term.Seal, m.Counter, nil, p[0], "x4500001600000000000000000a0100010a0001000102", p[2])
		}
	}
	b, _ := wire.Print(m)
	return b
}

// told is all that a world tells.
func told(w *world.World) []string {
	out := dump.Lines(w.Air(), dump.Filter{})
	for _, r := range w.Records() {
		out = append(out, strconv.Itoa(r.Kind)+" "+strconv.Itoa(r.At)+" "+strconv.Itoa(r.Peer)+" "+strconv.FormatInt(r.Now, 10)+" "+string(r.Bytes))
	}
	for i := range w.Air().Len() {
		d, _ := w.Air().At(i)
		out = append(out, string(d.Bytes))
	}
	for i := range w.Len() {
		out = append(out, strconv.Itoa(w.Address(i)))
	}
	return append(out, strconv.Itoa(w.Air().Had()), strconv.FormatInt(w.Now(), 10))
}

// T1: what is done by lines is what is done by acts.
func TestToldAlike(t *testing.T) {
	for seed := range 6 {
		r := random(seed)
		shared := []string{"", "0", "a9"}[seed%3]
		w := of(t, 2+seed, shared)
		c, _ := script.New(2+seed, shared)
		for range 200 {
			a := r.act(w)
			line, e := script.Print(a)
			if e != api.Fine {
				t.Fatal(a, e)
			}
			want := "ok"
			if code := w.Do(a); code != api.Fine {
				want = "error " + strconv.Itoa(int(code))
			}
			if got := c.Do(line); !slices.Equal(got, []string{want}) {
				t.Fatal(line, got, want)
			}
		}
		if !slices.Equal(told(w), told(c.World())) {
			t.Error(seed, "both worlds aren't alike")
		}
	}
}

// T2: a packet that one writes was taken by whom it comes from, one for one; and a
// world in which anything was done is clean.
func TestIntegrity(t *testing.T) {
	wrote := 0
	for seed := range 15 {
		r := random(100 + seed)
		w := of(t, 2+seed%4, []string{"", "a9"}[seed%2])
		for range 350 {
			w.Do(r.act(w))
		}
		l := w.Records()
		if len(books.Strange(l)) != 0 || !books.Sound(w) || !reuse.Clean(w) {
			t.Error(seed, "something strange was written")
		}
		for i, partner := range books.Match(l) {
			if l[i].Kind == world.Written && (l[partner].At != l[i].Peer || !bytes.Equal(l[partner].Bytes, l[i].Bytes)) {
				t.Error(seed, i, partner)
			}
			if l[i].Kind == world.Written {
				wrote++
			}
		}
	}
	if wrote < 100 {
		t.Error("too little was written to tell:", wrote)
	}
}

// T2: who was revealed can be played, and nobody else.
func TestIntegrityRevealed(t *testing.T) {
	w := of(t, 3, "")
	w.Do(world.Act{Kind: world.Reveal, At: 0})
	for range 2 {
		w.Do(world.Act{Kind: world.Tun, At: 1, N: 2, Bytes: []byte{7}})
	}
	settle.Rounds(w, 3, 100)
	for i := range w.Air().Len() {
		d, _ := w.Air().At(i)
		m, e := wire.Read(d.Bytes)
		if p := term.Parts(m.Data); e == api.Fine && m.Kind == api.Transport {
			m.Counter = 500
			m.Data = term.Make(term.Seal, 500, nil, p[0], p[1], p[2])
			b, _ := wire.Print(m)
			if e := w.Do(world.Act{Kind: world.Forge, At: 2, From: 9, Bytes: b}); e != api.Key {
				t.Error("a key of two others is known", e)
			}
		}
	}
	if len(books.Strange(w.Records())) != 0 || len(w.Records()) != 4 {
		t.Error(w.Records())
	}
}

// T3: keys that were made ahead of any reveal are never derived.
func TestSecrecy(t *testing.T) {
	for seed := range 8 {
		r := random(200 + seed)
		w := of(t, 3, []string{"", "a9"}[seed%2])
		for range 250 {
			w.Do(r.act(w))
		}
		var pairs []string
		for _, key := range reuse.Keys(w.Air()) {
			if w.Air().Knows(key) {
				t.Fatal("a key is known ahead of any reveal")
			}
			pairs = append(pairs, key)
		}
		if len(pairs) == 0 {
			t.Fatal(seed, "there are no keys")
		}
		for i := range w.Len() {
			w.Do(world.Act{Kind: world.Reveal, At: i})
		}
		w.Air().Tell("a9")
		for range 100 {
			w.Do(r.act(w))
		}
		for _, key := range pairs {
			if w.Air().Knows(key) {
				t.Error(seed, "a key that was made ahead is known")
			}
		}
	}
}

// T3: it isn't for nothing: with the fresh secrets of one side keys are derived.
func TestSecrecyEdge(t *testing.T) {
	w := of(t, 2, "")
	w.Do(world.Act{Kind: world.Tun, At: 0, N: 1, Bytes: []byte{7}})
	settle.Round(w, 10)
	keys := reuse.Keys(w.Air())
	w.Do(world.Act{Kind: world.Reveal, At: 0})
	if w.Air().Knows(keys[0]) {
		t.Error("it is known too early")
	}
	w.Air().Tell("a1000")
	if !w.Air().Knows(keys[0]) {
		t.Error("it isn't known by both secrets of one side")
	}
}

// use is when a key was used first, and last.
type use struct{ first, last int64 }

// T4: no key older than 180 seconds seals, no number is used twice with a key, and
// nothing is kept of which the newest pair is older than 540 seconds.
func TestLimits(t *testing.T) {
	for seed := range 6 {
		r := random(300 + seed)
		w := of(t, 3, "")
		used, seen := map[string]use{}, 0
		for range 300 {
			a := r.act(w)
			if a.Kind == world.Wait && r.next(4) == 0 {
				a.N = []int{60000, 170000, 179999, 180000, 400000}[r.next(5)]
			}
			w.Do(a)
			for ; seen < w.Air().Len(); seen++ {
				d, _ := w.Air().At(seen)
				note(t, used, d, w.Now())
			}
			look(t, w)
		}
		if len(reuse.Clashes(w.Air())) != 0 || len(used) == 0 {
			t.Error("numbers are used twice, or no keys at all")
		}
	}
}

// note looks at how long the key of a datagram that was sent now was used.
func note(t *testing.T, used map[string]use, d air.Datagram, now int64) {
	t.Helper()
	for _, u := range usesOf(d) {
		x, ok := used[u.Key]
		if !ok {
			x.first = now
		}
		x.last = now
		used[u.Key] = x
		if x.last-x.first >= api.Reject {
			t.Error("a key was used for", x.last-x.first)
		}
	}
}

// usesOf tells the uses of a datagram alone.
func usesOf(d air.Datagram) []reuse.Use {
	a := air.New()
	a.Send(d.From, d.To, d.Bytes)
	return reuse.Uses(a)
}

// look looks at how old pairs are that are kept.
func look(t *testing.T, w *world.World) {
	t.Helper()
	for i := range w.Len() {
		for place := range w.Device(i).Len() {
			l := w.Device(i).Peer(place).Made()
			if len(l) > 0 && w.Now()-slices.Max(l) >= api.Erase {
				t.Error("pairs are kept for", w.Now()-slices.Max(l))
			}
		}
	}
}

// T4: to the millisecond.
func TestLimitsEdge(t *testing.T) {
	for _, c := range []struct {
		wait int
		code api.Code
		made int
	}{{179999, api.Fine, 1}, {180000, api.Wait, 1}, {539999, api.Wait, 1}, {540000, api.Wait, 0}} {
		w := of(t, 2, "")
		w.Do(world.Act{Kind: world.Tun, At: 0, N: 1})
		for i := range 3 {
			w.Do(world.Act{Kind: world.Deliver, N: i})
		}
		w.Do(world.Act{Kind: world.Wait, N: c.wait})
		if e := w.Do(world.Act{Kind: world.Tun, At: 1, N: 0, Bytes: []byte{1}}); e != c.code {
			t.Error(c.wait, e)
		}
		if got := len(w.Device(1).Peer(0).Made()); got != c.made {
			t.Error(c.wait, got)
		}
	}
}

// T5: over an air that does its duty what is taken is written.
func TestDelivery(t *testing.T) {
	for n := 2; n <= 5; n++ {
		r := random(400 + n)
		w := of(t, n, "a9")
		for range 200 {
			at := r.next(n)
			w.Do(world.Act{Kind: world.Tun, At: at, N: (at + 1 + r.next(n-1)) % n, Bytes: []byte{byte(r.next(9))}})
			settle.Rounds(w, 1+r.next(30), 100)
		}
		if k, e := settle.Until(w, 1000, 1000); e != api.Fine {
			t.Error(n, k, e)
		}
		l := w.Records()
		if len(books.Lost(l))+len(books.Strange(l)) != 0 || len(l) != 400 {
			t.Error(n, books.Lost(l), books.Strange(l))
		}
		if slow, ok := books.Slowest(l); !ok || slow >= 250 {
			t.Error(n, "the slowest one took", slow)
		}
	}
}

// T6: who moves is followed.
func TestRoaming(t *testing.T) {
	j := roam.Journey{Masts: []sky.Point{{X: 0, Y: 0}, {X: 30, Y: 0}, {X: 30, Y: 30}, {X: 0, Y: 30}}}
	for i := range 3 {
		start := sky.Route{Start: sky.Point{X: 2 * i, Y: -1}, Legs: []sky.Leg{
			{Step: sky.Point{X: 3}, Seconds: 10}, {Step: sky.Point{Y: 3}, Seconds: 10}, {Step: sky.Point{X: -3}, Seconds: 10}, {Step: sky.Point{Y: -3}, Seconds: 10},
		}}
		j.Routes = append(j.Routes, start)
	}
	w := of(t, 3, "")
	l, e := j.Plan(40)
	if e != api.Fine {
		t.Fatal(e)
	}
	talk := func(at, n int) {
		w.Do(world.Act{Kind: world.Tun, At: at, N: n, Bytes: []byte{byte(at), byte(n)}})
		for i := range w.Air().Len() {
			if d, _ := w.Air().At(i); d.Delivered == 0 {
				w.Do(world.Act{Kind: world.Deliver, N: i})
			}
		}
	}
	for i, a := range l {
		w.Do(a)
		if a.Kind == world.Move && w.Now() > 0 || w.Now() == 0 && i == 2 {
			// Who moved says something to the others, and is followed.
			for n := range 3 {
				if n != a.At {
					talk(a.At, n)
					talk(n, a.At)
				}
			}
			for n := range 3 {
				follows(t, w, n, a.At)
			}
		}
	}
	if n, _ := j.Moves(40); n < 12 {
		t.Error("there are too few moves to tell:", n)
	}
	if r := w.Records(); len(books.Lost(r))+len(books.Strange(r)) != 0 {
		t.Error(books.Lost(r), books.Strange(r))
	}
}

// follows looks at whether a host knows where another one is.
func follows(t *testing.T, w *world.World, at, whom int) {
	t.Helper()
	if at == whom {
		return
	}
	place := whom
	if whom > at {
		place--
	}
	if p := w.Device(at).Peer(place); p.Endpoint() != w.Address(whom) || !strings.HasSuffix(p.Public(), "(a"+strconv.Itoa(whom+1)+")") {
		t.Error(at, "looks for", whom, "at", p.Endpoint(), "not at", w.Address(whom))
	}
}
