package slots_test

import (
	"math"
	"testing"

	"snicket/api"
	"snicket/noise"
	"snicket/pair"
	"snicket/slots"
)

func of(t *testing.T, local uint32, now int64) *pair.Pair {
	t.Helper()
	p, e := pair.New(noise.Keys{Send: "a1", Receive: "a2"}, local, 1, true, now)
	if e != api.Fine {
		t.Fatal(e)
	}
	return p
}

func look(t *testing.T, s *slots.Slots, previous, current, next *pair.Pair) {
	t.Helper()
	if s.At(slots.Previous) != previous || s.At(slots.Current) != current || s.At(slots.Next) != next {
		t.Errorf("the slots have %v, %v, %v", s.At(1), s.At(2), s.At(3))
	}
}

// P13.1: none at first, and none beside the three.
func TestNew(t *testing.T) {
	s := slots.New()
	look(t, s, nil, nil, nil)
	if _, ok := s.Newest(); ok || s.Erase() != 0 || s.Usable(0) != nil {
		t.Error("there is a pair")
	}
	p := of(t, 0, 0)
	s.Begun(p)
	s.Begun(p)
	s.Heard(p)
	for _, which := range []int{0, -1, 4, math.MaxInt, math.MinInt} {
		if s.At(which) != nil {
			t.Error(which, "is a slot")
		}
	}
}

// P13.1: pairs of the beginner.
func TestBegun(t *testing.T) {
	a, b, c, d := of(t, 1, 1), of(t, 2, 2), of(t, 3, 3), of(t, 4, 4)
	s := slots.New()
	if s.Begun(nil) != api.Nil || s.Heard(nil) != api.Nil {
		t.Error("nil is a pair")
	}
	if s.Begun(a) != api.Fine {
		t.Error("it isn't taken")
	}
	look(t, s, nil, a, nil)
	s.Begun(b)
	look(t, s, a, b, nil)
	s.Begun(nil)
	look(t, s, a, b, nil)
	s.Heard(c)
	look(t, s, a, b, c)
	s.Begun(d)
	look(t, s, c, d, nil)
	s = slots.New()
	s.Heard(a)
	s.Begun(b)
	look(t, s, a, b, nil)
	s.Begun(c)
	look(t, s, b, c, nil)
}

// P13.1, P13.2: pairs of the hearer.
func TestHeard(t *testing.T) {
	a, b, c := of(t, 1, 1), of(t, 2, 2), of(t, 3, 3)
	s := slots.New()
	if s.Heard(a) != api.Fine || s.Confirm(b) || s.Confirm(nil) {
		t.Error("it isn't heard")
	}
	look(t, s, nil, nil, a)
	if !s.Confirm(a) || s.Confirm(a) || s.Confirm(nil) {
		t.Error("it isn't confirmed")
	}
	look(t, s, nil, a, nil)
	s.Heard(b)
	s.Heard(c)
	look(t, s, nil, a, c)
	if s.Confirm(b) || s.Confirm(a) || s.Confirm(of(t, 3, 3)) {
		t.Error("another one is confirmed")
	}
	look(t, s, nil, a, c)
	if !s.Confirm(c) {
		t.Error("it isn't confirmed")
	}
	look(t, s, a, c, nil)
	s.Heard(c)
	look(t, s, a, c, c)
	s.Heard(a)
	look(t, s, a, c, a)
	if !s.Confirm(a) {
		t.Error("it isn't confirmed")
	}
	look(t, s, c, a, nil)
}

// P13.1: by numbers: the current one first, then the next one, then the previous one.
func TestFind(t *testing.T) {
	a, b, c := of(t, 7, 1), of(t, 7, 2), of(t, 7, 3)
	s := slots.New()
	if p, which := s.Find(0); p != nil || which != 0 {
		t.Error(p, which)
	}
	s.Begun(a)
	s.Begun(b)
	s.Heard(c)
	if p, which := s.Find(7); p != b || which != slots.Current {
		t.Error(p, which)
	}
	if p, which := s.Find(8); p != nil || which != 0 {
		t.Error(p, which)
	}
	s = slots.New()
	d := of(t, 9, 1)
	s.Begun(a)
	s.Begun(d)
	s.Heard(c)
	if p, which := s.Find(7); p != c || which != slots.Next {
		t.Error(p, which)
	}
	if p, which := s.Find(9); p != d || which != slots.Current {
		t.Error(p, which)
	}
	s.Heard(of(t, 10, 1))
	if p, which := s.Find(7); p != a || which != slots.Previous {
		t.Error(p, which)
	}
}

// P13.2: what can be used, what is newest, and what goes.
func TestUsable(t *testing.T) {
	a, b, c := of(t, 1, 1000), of(t, 2, 3000), of(t, 3, 2000)
	s := slots.New()
	s.Heard(a)
	if s.Usable(1000) != nil {
		t.Error("the next one is used")
	}
	if n, ok := s.Newest(); n != 1000 || !ok {
		t.Error(n, ok)
	}
	s.Confirm(a)
	if s.Usable(1000) != a || s.Usable(180999) != a || s.Usable(0) != a || s.Usable(181000) != nil || s.Usable(-1) != nil || s.Usable(api.MaxTime+1) != nil {
		t.Error("the current one is used otherwise")
	}
	s.Begun(b)
	s.Begun(c)
	if n, ok := s.Newest(); n != 3000 || !ok {
		t.Error(n, ok)
	}
	if s.Usable(182500) != nil || s.Usable(181999) != c {
		t.Error("the previous one is used")
	}
	c.Skip(api.MaxCount)
	if s.Usable(2000) != nil {
		t.Error("one that is used up is used")
	}
	s.Heard(a)
	if n, ok := s.Newest(); n != 3000 || !ok {
		t.Error(n, ok)
	}
	if s.Erase() != 3 || s.Erase() != 0 {
		t.Error("they don't go")
	}
	look(t, s, nil, nil, nil)
	if n, ok := s.Newest(); n != 0 || ok {
		t.Error(n, ok)
	}
	s.Begun(of(t, 1, 0))
	if n, ok := s.Newest(); n != 0 || !ok {
		t.Error(n, ok)
	}
	s.Begun(a)
	if s.Erase() != 2 {
		t.Error("two slots were filled")
	}
}

// R1: nil slots.
func TestNil(t *testing.T) {
	var s *slots.Slots
	a := of(t, 1, 1)
	p, which := s.Find(1)
	n, ok := s.Newest()
	if s.At(2) != nil || s.Begun(a) != api.Nil || s.Heard(a) != api.Nil || s.Begun(nil) != api.Nil || p != nil || which != 0 || s.Confirm(a) || s.Confirm(nil) || s.Usable(0) != nil || n != 0 || ok || s.Erase() != 0 {
		t.Error("nil slots tell something")
	}
}
