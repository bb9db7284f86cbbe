package source_test

import (
	"math"
	"testing"

	"snicket/api"
	"snicket/source"
)

func left(t *testing.T, s *source.Source, atoms, numbers uint32) {
	t.Helper()
	if a, n := s.Left(); a != atoms || n != numbers {
		t.Errorf("left are %d, %d", a, n)
	}
}

// P14.1: secrets and numbers, each from its own place on.
func TestNext(t *testing.T) {
	s := source.New(7, 100)
	left(t, s, math.MaxUint32-7, math.MaxUint32-100)
	for i, want := range []string{"a7", "a8", "a9"} {
		if a, e := s.Secret(); a != want || e != api.Fine {
			t.Error(a, e)
		}
		if n, e := s.Index(); n != uint32(100+i) || e != api.Fine {
			t.Error(n, e)
		}
	}
	s.Index()
	left(t, s, math.MaxUint32-10, math.MaxUint32-104)
	if a, _ := source.New(0, 0).Secret(); a != "a0" {
		t.Error(a)
	}
}

// P14.1: the end.
func TestEnd(t *testing.T) {
	s := source.New(math.MaxUint32-1, math.MaxUint32)
	left(t, s, 1, 0)
	if n, e := s.Index(); n != 0 || e != api.Limit {
		t.Error(n, e)
	}
	if a, e := s.Secret(); a != "a4294967294" || e != api.Fine {
		t.Error(a, e)
	}
	for range 3 {
		if a, e := s.Secret(); a != "" || e != api.Limit {
			t.Error(a, e)
		}
		left(t, s, 0, 0)
	}
	s = source.New(math.MaxUint32, math.MaxUint32-1)
	left(t, s, 0, 1)
	if _, e := s.Secret(); e != api.Limit {
		t.Error(e)
	}
	if n, e := s.Index(); n != math.MaxUint32-1 || e != api.Fine {
		t.Error(n, e)
	}
	if n, e := s.Index(); n != 0 || e != api.Limit {
		t.Error(n, e)
	}
	if n, e := s.Stamp(5); n != 5 || e != api.Fine {
		t.Error(n, e)
	}
}

// P14.1: stamps, with times that stand, fall and are none.
func TestStamp(t *testing.T) {
	s := source.New(1, 1)
	for i, c := range []struct {
		now  int64
		want uint64
		e    api.Code
	}{
		{0, 0, api.Fine}, {0, 1, api.Fine}, {5, 5, api.Fine}, {5, 6, api.Fine}, {3, 7, api.Fine}, {-1, 0, api.Arg}, {api.MaxTime + 1, 0, api.Arg}, {math.MinInt64, 0, api.Arg}, {math.MaxInt64, 0, api.Arg},
		{8, 8, api.Fine}, {100, 100, api.Fine}, {101, 101, api.Fine}, {api.MaxTime, api.MaxTime, api.Fine}, {api.MaxTime, api.MaxTime + 1, api.Fine}, {0, api.MaxTime + 2, api.Fine},
	} {
		if n, e := s.Stamp(c.now); n != c.want || e != c.e {
			t.Errorf("%d: %d, %d", i, n, e)
		}
	}
	left(t, s, math.MaxUint32-1, math.MaxUint32-1)
}

// P14.2: nothing is given twice; stamps rise.
func TestOnce(t *testing.T) {
	s := source.New(0, 5)
	secrets, numbers, last := map[string]bool{}, map[uint32]bool{}, uint64(0)
	for i := 0; i < 2000; i++ {
		a, _ := s.Secret()
		n, _ := s.Index()
		stamp, _ := s.Stamp(int64(i * i % 700))
		if secrets[a] || numbers[n] || i > 0 && stamp <= last {
			t.Fatal(a, n, stamp)
		}
		secrets[a], numbers[n], last = true, true, stamp
	}
}

// R1: a nil source.
func TestNil(t *testing.T) {
	var s *source.Source
	a, e1 := s.Secret()
	n, e2 := s.Index()
	stamp, e3 := s.Stamp(-1)
	if a != "" || n != 0 || stamp != 0 || e1 != api.Nil || e2 != api.Nil || e3 != api.Nil {
		t.Error("a nil source gives something")
	}
	left(t, s, 0, 0)
}
