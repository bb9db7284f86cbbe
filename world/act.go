package world

import (
	"snicket/api"
	"snicket/packet"
)

// rule is how acts of a kind are done, and what they must name: a device, a
// datagram, an address to come from, an N within its ends.
type rule struct {
	do       func(*World, Act) api.Code
	device   bool
	datagram bool
	from     bool
	ends     bool
	low      int
	high     int
}

// rules tells the rules of all kinds, by their numbers.
func rules() [Load + 1]rule {
	return [Load + 1]rule{
		Tun:      {do: (*World).tun, device: true, ends: true, high: 255},
		Deliver:  {do: (*World).deliver, datagram: true},
		Redirect: {do: (*World).redirect, device: true, datagram: true, from: true},
		Forge:    {do: (*World).forge, device: true, from: true},
		Wait:     {do: (*World).wait, ends: true, low: 1, high: 1_000_000},
		Move:     {do: (*World).move, device: true, from: true},
		Reveal:   {do: (*World).reveal, device: true},
		Load:     {do: (*World).load, device: true},
	}
}

// check tells what an act names that can't be.
func (w *World) check(r rule, a Act) api.Code {
	sent := a.N >= 0 && a.N < w.air.Len()
	switch {
	case r.device && w.at(a.At) == nil, r.datagram && !sent:
		return api.None
	case r.from && a.From < 1, r.ends && (a.N < r.low || a.N > r.high):
		return api.Arg
	}
	return api.Fine
}

// tun lets a packet come from above.
func (w *World) tun(a Act) api.Code {
	b, code := packet.Make([]byte{10, byte(a.At), 0, 1}, []byte{10, byte(a.N), 0, 1}, a.Bytes)
	if code != api.Fine {
		return code
	}
	l, code := w.hosts[a.At].Tun(w.now, b)
	switch code {
	case api.Fine, api.Wait, api.None:
		w.records = append(w.records, Record{Kind: Taken, At: a.At, Peer: a.N, Bytes: b, Now: w.now})
	}
	w.follow(a.At, l)
	return code
}

// deliver lets a datagram come to whoever has its address.
func (w *World) deliver(a Act) api.Code {
	d, _ := w.air.At(a.N)
	to := w.whose(d.To)
	if to < 0 {
		return api.None
	}
	return w.bring(a.N, to, d.From)
}

// redirect lets a datagram come to somebody, from somewhere.
func (w *World) redirect(a Act) api.Code {
	return w.bring(a.N, a.At, a.From)
}

// bring delivers a datagram to a device, as if it came from that address.
func (w *World) bring(n, to, from int) api.Code {
	d, code := w.air.Deliver(n)
	if code != api.Fine {
		return code
	}
	return w.udp(to, from, d.Bytes)
}

// udp lets bytes come to a device.
func (w *World) udp(to, from int, b []byte) api.Code {
	l, code := w.hosts[to].Udp(w.now, from, b)
	w.follow(to, l)
	return code
}

// forge lets bytes come to a device that the listener made.
func (w *World) forge(a Act) api.Code {
	if !w.air.Can(a.Bytes) {
		return api.Key
	}
	return w.udp(a.At, a.From, a.Bytes)
}

// wait lets the time go on.
func (w *World) wait(a Act) api.Code {
	if int64(a.N) > api.MaxTime-w.now {
		return api.Arg
	}
	w.now += int64(a.N)
	for i, h := range w.hosts {
		l, _ := h.Tick(w.now)
		w.follow(i, l)
	}
	return api.Fine
}

// move gives a device another address.
func (w *World) move(a Act) api.Code {
	if whose := w.whose(a.From); whose >= 0 && whose != a.At {
		return api.Known
	}
	w.hosts[a.At].address = a.From
	return api.Fine
}

// whose tells which device has an address, or -1.
func (w *World) whose(address int) int {
	for i, h := range w.hosts {
		if h.address == address {
			return i
		}
	}
	return -1
}

// reveal tells the listener a secret.
func (w *World) reveal(a Act) api.Code {
	h := w.hosts[a.At]
	w.air.Tell(secret(a.At))
	if !h.revealed {
		h.revealed, h.since = true, w.now
	}
	return api.Fine
}

// load lets a device be loaded, or not.
func (w *World) load(a Act) api.Code {
	w.hosts[a.At].Load(a.N%2 != 0)
	return api.Fine
}

// follow does what a device told to do.
func (w *World) follow(i int, l []api.Action) {
	for _, x := range l {
		switch x.Kind {
		case api.Send:
			w.air.Send(w.hosts[i].address, x.To, x.Bytes)
		case api.Write:
			w.records = append(w.records, Record{Kind: Written, At: i, Peer: number(i, x.Peer), Bytes: x.Bytes, Now: w.now})
		}
	}
}
