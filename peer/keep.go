package peer

import (
	"bytes"

	"snicket/api"
	"snicket/pair"
	"snicket/slots"
)

// Stage lets a packet wait; it tells whether one went for it.
func (p *Peer) Stage(b []byte) bool {
	if p == nil {
		return false
	}
	_, gone := p.staged.Push(bytes.Clone(b))
	return gone
}

// Take takes the first packet that waits.
func (p *Peer) Take() ([]byte, bool) {
	if p == nil {
		return nil, false
	}
	return p.staged.Pop()
}

// Staged tells how many packets wait.
func (p *Peer) Staged() int {
	if p == nil {
		return 0
	}
	return p.staged.Len()
}

// Due tells what is due, rising.
func (p *Peer) Due(now int64) []int {
	if p.check(now, 0) != api.Fine {
		return nil
	}
	past := func(at, after int64) bool { return now-at >= after }
	newest, paired := p.pairs.Newest()
	shaking := p.shake != nil
	old := shaking && past(p.shake.begun, api.GiveUp)
	var out []int
	tell := func(what int, due bool) {
		if due {
			out = append(out, what)
		}
	}
	tell(Erase, paired && past(newest, api.Erase))
	tell(GiveUp, old)
	tell(Retry, shaking && !old && past(p.shake.sent, api.Retry))
	tell(Silence, !shaking && p.waits.set && past(p.waits.at, api.Silence))
	tell(Keepalive, p.owes.set && past(p.owes.at, api.Keepalive) && p.Fresh(now))
	return out
}

// Erase lets all keys go, and tells how many pairs that were.
func (p *Peer) Erase() int {
	if p == nil {
		return 0
	}
	p.shake = nil
	p.owes, p.waits = mark{}, mark{}
	return p.pairs.Erase()
}

// GiveUp lets the handshake go, and all that waits for it.
func (p *Peer) GiveUp() int {
	if p == nil {
		return 0
	}
	p.shake = nil
	p.waits = mark{}
	return p.staged.Clear()
}

// Knows tells whether a number is a pair's (1), or else the handshake's (2).
func (p *Peer) Knows(local uint32) int {
	if p == nil {
		return 0
	}
	if by, _ := p.pairs.Find(local); by != nil {
		return 1
	}
	if p.shake != nil && p.shake.Sender == local {
		return 2
	}
	return 0
}

// current tells the current pair.
func (p *Peer) current() *pair.Pair {
	if p == nil {
		return nil
	}
	return p.pairs.At(slots.Current)
}

// Tired tells whether the current pair is the beginner's, and so old.
func (p *Peer) Tired(now, after int64) bool {
	return p.current().Tired(now, after)
}

// Fresh tells whether the current pair could seal.
func (p *Peer) Fresh(now int64) bool {
	return p.current().Fresh(now)
}

// Public tells the public key.
func (p *Peer) Public() string {
	if p == nil {
		return ""
	}
	return p.public
}

// Endpoint tells where the peer is.
func (p *Peer) Endpoint() int {
	if p == nil {
		return 0
	}
	return p.endpoint
}

// all tells the pairs: the previous, the current, the next one.
func (p *Peer) all() []*pair.Pair {
	var out []*pair.Pair
	if p == nil {
		return nil
	}
	for which := slots.Previous; which <= slots.Next; which++ {
		if by := p.pairs.At(which); by != nil {
			out = append(out, by)
		}
	}
	return out
}

// Made tells when the pairs were made.
func (p *Peer) Made() []int64 {
	var out []int64
	for _, by := range p.all() {
		out = append(out, by.Made())
	}
	return out
}

// Skip lets each pair go on from a counter, unless that is less than it has.
func (p *Peer) Skip(n uint64) {
	for _, by := range p.all() {
		by.Skip(n)
	}
}
