package roam_test

import (
	"math"
	"strconv"
	"strings"
	"testing"

	"snicket/api"
	"snicket/roam"
	"snicket/sky"
	"snicket/world"
)

func leg(x, y, seconds int) sky.Leg {
	return sky.Leg{Step: sky.Point{X: x, Y: y}, Seconds: seconds}
}

// walk is a journey of two among two masts.
func walk() roam.Journey {
	return roam.Journey{
		Masts: []sky.Point{{X: 0, Y: 0}, {X: 10, Y: 0}},
		Routes: []sky.Route{
			{Start: sky.Point{X: 4, Y: 0}, Legs: []sky.Leg{leg(1, 0, 3), leg(-1, 0, 3)}},
			{Start: sky.Point{X: 9, Y: 0}, Legs: []sky.Leg{leg(-4, 0, 1), leg(0, 1, 1), leg(4, 0, 2)}},
		},
	}
}

// told is acts as texts.
func told(l []world.Act) string {
	var out []string
	for _, a := range l {
		s := "wait " + strconv.Itoa(a.N)
		if a.Kind == world.Move {
			s = "move " + strconv.Itoa(a.At) + " " + strconv.Itoa(a.From)
		} else if a.Kind != world.Wait {
			s = "kind " + strconv.Itoa(a.Kind)
		}
		if a.Kind == world.Move && a.N != 0 || a.Kind == world.Wait && a.At+a.From != 0 || len(a.Bytes) != 0 {
			s += " and more"
		}
		out = append(out, s)
	}
	return strings.Join(out, ", ")
}

// P22.1: addresses, there and back.
func TestAddress(t *testing.T) {
	seen := map[int]bool{}
	for mast := range 64 {
		for host := range 8 {
			a, e := roam.Address(host, mast)
			if a != 8*mast+host+1 || e != api.Fine || seen[a] {
				t.Error(host, mast, a, e)
			}
			seen[a] = true
			if h, m, e := roam.Where(a); h != host || m != mast || e != api.Fine {
				t.Error(a, h, m, e)
			}
		}
	}
	if a, _ := roam.Address(2, 3); a != 27 {
		t.Error(a)
	}
	for _, c := range [][2]int{{-1, 0}, {8, 0}, {0, -1}, {0, 64}, {math.MaxInt, math.MaxInt}, {math.MinInt, 0}, {0, math.MinInt}} {
		if a, e := roam.Address(c[0], c[1]); a != 0 || e != api.Arg {
			t.Error(c, a, e)
		}
	}
	for _, a := range []int{0, -1, 513, math.MaxInt, math.MinInt} {
		if h, m, e := roam.Where(a); h != 0 || m != 0 || e != api.Arg {
			t.Error(a, h, m, e)
		}
	}
}

// P22.1: which journeys are right.
func TestRight(t *testing.T) {
	some := sky.Point{}
	still := sky.Route{}
	for i, c := range []struct {
		j    roam.Journey
		want bool
	}{
		{walk(), true}, {roam.Journey{Masts: []sky.Point{some}, Routes: []sky.Route{still}}, true}, {roam.Journey{Masts: make([]sky.Point, 64), Routes: make([]sky.Route, 8)}, true},
		{roam.Journey{}, false}, {roam.Journey{Masts: []sky.Point{some}}, false}, {roam.Journey{Routes: []sky.Route{still}}, false}, {roam.Journey{Masts: make([]sky.Point, 65), Routes: []sky.Route{still}}, false}, {roam.Journey{Masts: []sky.Point{some}, Routes: make([]sky.Route, 9)}, false},
		{roam.Journey{Masts: []sky.Point{{X: 1<<24 + 1}}, Routes: []sky.Route{still}}, false}, {roam.Journey{Masts: []sky.Point{some}, Routes: []sky.Route{still, {Legs: []sky.Leg{leg(0, 0, 0)}}}}, false}, {roam.Journey{Masts: []sky.Point{some}, Routes: []sky.Route{{Start: sky.Point{Y: -1<<24 - 1}}}}, false},
	} {
		if c.j.Right() != c.want {
			t.Error(i, "isn't", c.want)
		}
		if c.want {
			continue
		}
		l, e1 := c.j.Plan(-1)
		at, e2 := c.j.At(-1, -1)
		n, e3 := c.j.Moves(-1)
		if len(l) != 0 || at != 0 || n != 0 || e1 != api.Form || e2 != api.Form || e3 != api.Form {
			t.Error(i, l, at, n, e1, e2, e3)
		}
	}
}

// P22.1: the plan, act by act.
func TestPlan(t *testing.T) {
	for _, c := range []struct {
		until int
		want  string
		moves int
	}{
		{0, "move 0 1, move 1 10", 2},
		{1, "move 0 1, move 1 10, wait 1000, move 1 2", 3},
		{2, "move 0 1, move 1 10, wait 1000, move 1 2, wait 1000, move 0 9", 4},
		{5, "move 0 1, move 1 10, wait 1000, move 1 2, wait 1000, move 0 9, wait 1000, move 1 10, wait 1000, wait 1000, move 0 1", 6},
	} {
		l, e := walk().Plan(c.until)
		if got := told(l); got != c.want || e != api.Fine {
			t.Errorf("%d: %s, %d", c.until, got, e)
		}
		if n, e := walk().Moves(c.until); n != c.moves || e != api.Fine {
			t.Error(c.until, n, e)
		}
	}
	l, e := walk().Plan(1000)
	if n, _ := walk().Moves(1000); len(l) != 1006 || e != api.Fine || n != 6 {
		t.Error(len(l), e, n)
	}
	for _, until := range []int{-1, 1001, math.MaxInt, math.MinInt} {
		l, e := walk().Plan(until)
		n, e2 := walk().Moves(until)
		if len(l) != 0 || e != api.Arg || n != 0 || e2 != api.Arg {
			t.Error(until, e, n, e2)
		}
	}
	j := walk()
	for i := range 2 { // both move at the same second, in order
		j.Routes[i] = sky.Route{Start: sky.Point{X: 5}, Legs: []sky.Leg{leg(1, 0, 1)}}
	}
	if l, _ := j.Plan(1); told(l) != "move 0 1, move 1 2, wait 1000, move 0 9, move 1 10" {
		t.Error(told(l))
	}
}

// P22.1: where a host is.
func TestAt(t *testing.T) {
	for _, c := range []struct {
		host, second, want int
		e                  api.Code
	}{
		{0, 0, 1, api.Fine}, {0, 1, 1, api.Fine}, {0, 2, 9, api.Fine}, {0, 4, 9, api.Fine}, {0, 5, 1, api.Fine}, {0, math.MaxInt, 1, api.Fine}, {1, 0, 10, api.Fine}, {1, 1, 2, api.Fine}, {1, 3, 10, api.Fine},
		{2, 0, 0, api.None}, {-1, -1, 0, api.None}, {math.MaxInt, 0, 0, api.None}, {0, -1, 0, api.Arg}, {1, math.MinInt, 0, api.Arg},
	} {
		if got, e := walk().At(c.host, c.second); got != c.want || e != c.e {
			t.Error(c, got, e)
		}
	}
}

// P22.2: done in a new world each act is Fine, and each host is where At tells.
func TestDone(t *testing.T) {
	seed := uint64(5)
	next := func(most int) int {
		seed = seed*6364136223846793005 + 1442695040888963407
		return int(seed>>33)%(2*most+1) - most
	}
	for n := 1; n <= 8; n++ {
		var j roam.Journey
		for range 6 {
			j.Masts = append(j.Masts, sky.Point{X: next(40), Y: next(40)})
		}
		for range n {
			j.Routes = append(j.Routes, sky.Route{Start: sky.Point{X: next(40), Y: next(40)}, Legs: []sky.Leg{leg(next(4), next(4), 20), leg(next(9), next(9), 10)}})
		}
		w, e := world.New(max(n, 2), "")
		if e != api.Fine {
			t.Fatal(e)
		}
		l, e := j.Plan(40)
		if e != api.Fine {
			t.Fatal(e)
		}
		l = append(l, world.Act{Kind: world.Wait, N: 1}) // so that the last second is looked at, too
		second := 0
		for i, a := range l {
			if a.Kind == world.Wait {
				for host := range n {
					if at, e := j.At(host, second); at != w.Address(host) || e != api.Fine {
						t.Fatal(n, i, host, at, w.Address(host))
					}
				}
				second++
			}
			if e := w.Do(a); e != api.Fine {
				t.Fatal(n, i, a, e)
			}
		}
		if second != 41 {
			t.Error("there are", second)
		}
	}
}

// R4: what is handed in stays, what is told is the caller's.
func TestOwn(t *testing.T) {
	j := walk()
	l, _ := j.Plan(5)
	l[0].From = 99
	again, _ := j.Plan(5)
	if again[0].From != 1 || j.Routes[0].Start.X != 4 || j.Masts[1].X != 10 {
		t.Error("something was changed")
	}
}
