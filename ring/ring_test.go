package ring_test

import (
	"math"
	"slices"
	"testing"

	"snicket/api"
	"snicket/ring"
)

func of(t *testing.T, room int, l ...int) *ring.Ring[int] {
	t.Helper()
	r, e := ring.New[int](room)
	if e != api.Fine || r == nil {
		t.Fatal(room, e)
	}
	for _, x := range l {
		r.Push(x)
	}
	return r
}

// P9.1: which rooms there are.
func TestNew(t *testing.T) {
	for _, room := range []int{0, -1, 4097, math.MaxInt, math.MinInt} {
		if r, e := ring.New[string](room); r != nil || e != api.Arg {
			t.Error(room, e)
		}
	}
	for _, room := range []int{1, 2, 4096} {
		r, e := ring.New[string](room)
		if e != api.Fine || r.Room() != room || r.Len() != 0 || len(r.All()) != 0 {
			t.Error(room, e)
		}
	}
}

// P9.1: the third one drops the first one.
func TestPush(t *testing.T) {
	r := of(t, 2)
	for i, c := range []struct {
		x, gone int
		is      bool
	}{{1, 0, false}, {2, 0, false}, {3, 1, true}, {4, 2, true}, {5, 3, true}} {
		if gone, is := r.Push(c.x); gone != c.gone || is != c.is {
			t.Errorf("%d: %d, %v goes", i, gone, is)
		}
	}
	if l := r.All(); !slices.Equal(l, []int{4, 5}) || r.Len() != 2 || r.Room() != 2 {
		t.Error(l)
	}
	r = of(t, 1, 7)
	if gone, is := r.Push(8); gone != 7 || !is || r.Len() != 1 {
		t.Error(gone, is)
	}
}

// P9.1: from both ends.
func TestPop(t *testing.T) {
	r := of(t, 3, 1, 2, 3, 4)
	if x, ok := r.Pop(); x != 2 || !ok {
		t.Error(x, ok)
	}
	if x, ok := r.Back(); x != 4 || !ok {
		t.Error(x, ok)
	}
	if x, ok := r.Back(); x != 3 || !ok || r.Len() != 0 {
		t.Error(x, ok)
	}
	if x, ok := r.Back(); x != 0 || ok {
		t.Error(x, ok)
	}
	if x, ok := r.Pop(); x != 0 || ok {
		t.Error(x, ok)
	}
	if gone, is := r.Push(9); gone != 0 || is || !slices.Equal(r.All(), []int{9}) {
		t.Error(r.All())
	}
}

// P9.2: all go.
func TestClear(t *testing.T) {
	r := of(t, 3, 1, 2, 3, 4)
	if r.Clear() != 3 || r.Clear() != 0 || r.Len() != 0 || len(r.All()) != 0 || r.Room() != 3 {
		t.Error("it isn't empty")
	}
	r.Push(5)
	if l := r.All(); !slices.Equal(l, []int{5}) {
		t.Error(l)
	}
	l := r.All()
	l[0] = 6
	if r.All()[0] != 5 {
		t.Error("what was told is kept")
	}
}

// P9.1, P9.2: long rows of calls, against a plain list.
func TestModel(t *testing.T) {
	for _, room := range []int{1, 2, 3, 7, 64} {
		r, model := of(t, room), []int{}
		seed := uint32(room)
		for i := 0; i < 3000; i++ {
			seed = seed*1664525 + 1013904223
			var got, want int
			var ok, is bool
			switch k := seed >> 16 % 64; {
			case k < 36:
				if is = len(model) == room; is {
					want, model = model[0], model[1:]
				}
				model = append(model, i)
				got, ok = r.Push(i)
			case k < 50:
				if is = len(model) > 0; is {
					want, model = model[0], model[1:]
				}
				got, ok = r.Pop()
			case k < 63:
				if is = len(model) > 0; is {
					want, model = model[len(model)-1], model[:len(model)-1]
				}
				got, ok = r.Back()
			default:
				got, want, model = r.Clear(), len(model), nil
			}
			if got != want || ok != is || r.Len() != len(model) || !slices.Equal(r.All(), model) {
				t.Fatal(room, i, got, want, r.All(), model)
			}
		}
	}
}

// P9.1: things of another type.
func TestTexts(t *testing.T) {
	r, _ := ring.New[[]byte](1)
	r.Push([]byte("one"))
	if gone, is := r.Push([]byte("two")); string(gone) != "one" || !is {
		t.Error(gone, is)
	}
	if x, ok := r.Pop(); string(x) != "two" || !ok {
		t.Error(x, ok)
	}
	if x, ok := r.Pop(); x != nil || ok {
		t.Error(x, ok)
	}
}

// R1: a nil ring.
func TestNil(t *testing.T) {
	var r *ring.Ring[int]
	gone, is := r.Push(1)
	x, ok := r.Pop()
	y, had := r.Back()
	if gone != 0 || is || x != 0 || ok || y != 0 || had || r.Len() != 0 || r.Room() != 0 || len(r.All()) != 0 || r.Clear() != 0 {
		t.Error("a nil ring tells something")
	}
}
