package device

import (
	"snicket/api"
	"snicket/macs"
	"snicket/noise"
	"snicket/packet"
	"snicket/peer"
	"snicket/wire"
)

// multiple is up to which packets are filled.
const multiple = 16

// event is a device to which something happens, and what it does then.
type event struct {
	*Device
	now  int64
	from int
	out  []api.Action
}

// check tells what is wrong with the device, or the time.
func (ev *event) check() api.Code {
	switch {
	case ev.Device == nil:
		return api.Nil
	case ev.now < 0 || ev.now > api.MaxTime:
		return api.Arg
	}
	return api.Fine
}

// sendTo sends a message to an address, if that is known.
func (ev *event) sendTo(to int, m api.Message) {
	b, code := wire.Print(m)
	if to > 0 && code == api.Fine {
		ev.out = append(ev.out, api.Action{Kind: api.Send, To: to, Bytes: b})
	}
}

// knock begins a handshake with a peer.
func (ev *event) knock(p *peer.Peer) api.Code {
	m, code := p.Knock(ev.now, ev.self, ev.src)
	if code == api.Fine {
		ev.sendTo(p.Endpoint(), m)
	}
	return code
}

// seal sends bytes to a peer; what isn't sealed is lost.
func (ev *event) seal(p *peer.Peer, b []byte) {
	m, code := p.Seal(ev.now, b)
	if code == api.Fine {
		ev.sendTo(p.Endpoint(), m)
	}
}

// flush sends what is staged for a peer, or does what must be done ahead of that.
func (ev *event) flush(p *peer.Peer) api.Code {
	if p.Staged() == 0 {
		return api.Fine
	}
	if p.Endpoint() == 0 {
		return api.None
	}
	if !p.Fresh(ev.now) {
		code := ev.knock(p)
		if code == api.Fine {
			code = api.Wait
		}
		return code
	}
next:
	if b, ok := p.Take(); ok {
		ev.seal(p, packet.Pad(b, multiple))
		goto next
	}
	if p.Tired(ev.now, api.Rekey) {
		ev.knock(p)
	}
	return api.Fine
}

// above takes a packet that comes from above.
func (ev *event) above(b []byte) api.Code {
	h, code := packet.Read(b)
	if code != api.Fine {
		return code
	}
	if len(b) > api.MaxPacket {
		return api.Long
	}
	owner, ok := ev.table.Owner(h.Dst)
	if !ok {
		return api.Route
	}
	p := ev.peers[owner]
	p.Stage(b[:h.Len])
	return ev.flush(p)
}

// below takes bytes that come from below.
func (ev *event) below(b []byte) api.Code {
	m, code := wire.Read(b)
	if code != api.Fine {
		return code
	}
	takers := [...]func(*event, api.Message) api.Code{
		api.Init:      (*event).hear,
		api.Response:  (*event).finish,
		api.CookieMsg: (*event).refused,
		api.Transport: (*event).open,
	}
	return takers[m.Kind](ev, m)
}

// admit tells whether an Init or a Response may ask for more.
func (ev *event) admit(m api.Message) api.Code {
	if !macs.First(m, ev.key) {
		return api.Key
	}
	if !ev.loaded {
		return api.Fine
	}
	if code := ev.renew(); code != api.Fine {
		return code
	}
	cookie := macs.Cookie(ev.secret, ev.from)
	if macs.Second(m, cookie) {
		return api.Fine
	}
	refusal, code := macs.Refuse(m, ev.key, cookie, ev.refusals)
	if code == api.Fine {
		ev.refusals++
		ev.sendTo(ev.from, refusal)
	}
	return api.Load
}

// renew takes a secret for cookies, if there is none that is young enough.
func (ev *event) renew() api.Code {
	if ev.secret != "" && ev.now-ev.since < api.Cookie {
		return api.Fine
	}
	secret, code := ev.src.Secret()
	if code == api.Fine {
		ev.secret, ev.since = secret, ev.now
	}
	return code
}

// knower tells the place of the first peer that knows a number so, or -1.
func (ev *event) knower(local uint32, as int) int {
	for i, p := range ev.peers {
		if p.Knows(local) == as {
			return i
		}
	}
	return -1
}

// How a peer may know a number.
const (
	asPair      = 1
	asHandshake = 2
)

// hear takes an Init.
func (ev *event) hear(m api.Message) api.Code {
	if code := ev.admit(m); code != api.Fine {
		return code
	}
	h, code := noise.Hear(ev.self, m)
	if code != api.Fine {
		return code
	}
	for _, p := range ev.peers {
		if p.Public() != h.Public {
			continue
		}
		response, code := p.Hear(ev.now, h, ev.src, ev.from)
		if code == api.Fine {
			ev.sendTo(p.Endpoint(), response)
		}
		return code
	}
	return api.None
}

// finish takes a Response.
func (ev *event) finish(m api.Message) api.Code {
	if code := ev.admit(m); code != api.Fine {
		return code
	}
	i := ev.knower(m.Receiver, asHandshake)
	if i < 0 {
		return api.None
	}
	p := ev.peers[i]
	if code := p.Finish(ev.now, ev.self, m, ev.from); code != api.Fine {
		return code
	}
	if p.Staged() == 0 { // the other one can't send till something came by the new keys
		ev.seal(p, nil)
	}
	ev.flush(p)
	return api.Fine
}

// refused takes a CookieMsg.
func (ev *event) refused(m api.Message) api.Code {
	i := ev.knower(m.Receiver, asHandshake)
	if i < 0 {
		return api.None
	}
	return ev.peers[i].Refused(ev.now, m)
}

// open takes a Transport.
func (ev *event) open(m api.Message) api.Code {
	i := ev.knower(m.Receiver, asPair)
	if i < 0 {
		return api.None
	}
	p := ev.peers[i]
	b, confirmed, code := p.Open(ev.now, m, ev.from)
	if code != api.Fine {
		return code
	}
	if confirmed {
		ev.flush(p)
	}
	if len(b) > 0 {
		code = ev.write(i, b)
	}
	if p.Tired(ev.now, api.Receive) {
		ev.knock(p)
	}
	return code
}

// write gives a packet that came from a peer to above, if it is the peer's own.
func (ev *event) write(from int, b []byte) api.Code {
	h, code := packet.Read(b)
	if code != api.Fine {
		return code
	}
	owner, ok := ev.table.Owner(h.Src)
	if !ok || owner != from {
		return api.Source
	}
	ev.out = append(ev.out, api.Action{Kind: api.Write, Peer: from, Bytes: b[:h.Len]})
	return api.Fine
}

// due does what is due at a peer; what that is, is asked ahead of it all.
func (ev *event) due(p *peer.Peer) {
	for _, what := range p.Due(ev.now) {
		switch what {
		case peer.Erase:
			p.Erase()
		case peer.GiveUp:
			p.GiveUp()
		case peer.Retry, peer.Silence:
			ev.knock(p)
		case peer.Keepalive:
			ev.seal(p, nil)
		}
	}
}
