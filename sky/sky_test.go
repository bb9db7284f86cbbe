package sky_test

import (
	"math"
	"slices"
	"testing"

	"snicket/api"
	"snicket/sky"
)

const edge = 1 << 24

type p = sky.Point

func leg(x, y, seconds int) sky.Leg {
	return sky.Leg{Step: p{x, y}, Seconds: seconds}
}

func route(x, y int, legs ...sky.Leg) sky.Route {
	return sky.Route{Start: p{x, y}, Legs: legs}
}

// wrong has routes that aren't right.
func wrong() []sky.Route {
	var many []sky.Leg
	for range 65 {
		many = append(many, leg(0, 0, 1))
	}
	return []sky.Route{
		route(edge+1, 0), route(0, -edge-1), route(math.MinInt, math.MaxInt), route(0, 0, many...),
		route(0, 0, leg(1001, 0, 1)), route(0, 0, leg(0, -1001, 1)), route(0, 0, leg(math.MaxInt, math.MinInt, 1)), route(0, 0, leg(0, 0, 0)), route(0, 0, leg(0, 0, -1)), route(0, 0, leg(0, 0, 10001)), route(0, 0, leg(0, 0, math.MaxInt)),
		route(edge, 0, leg(1, 0, 1)), route(0, -edge, leg(0, -1, 1)), route(edge-9, 0, leg(1, 0, 10)), route(edge, 0, leg(1, 0, 1), leg(-1, 0, 1)), route(0, 0, leg(1000, 0, 10000), leg(1000, 0, 6778)),
	}
}

// P21.1: which points and routes are right.
func TestRight(t *testing.T) {
	for _, c := range []struct {
		p    p
		want bool
	}{{p{}, true}, {p{edge, -edge}, true}, {p{edge + 1, 0}, false}, {p{0, edge + 1}, false}, {p{-edge - 1, 0}, false}, {p{0, -edge - 1}, false}, {p{math.MinInt, 0}, false}, {p{0, math.MaxInt}, false}} {
		if c.p.Right() != c.want {
			t.Error(c)
		}
	}
	var many []sky.Leg
	for range 64 {
		many = append(many, leg(-1000, 1000, 100))
	}
	for i, r := range []sky.Route{{}, route(edge, edge), route(0, 0, many...), route(edge-10, 0, leg(1, 0, 10)), route(0, -edge, leg(1000, 1000, 10000)), route(0, 0, leg(1000, 0, 10000), leg(1000, 0, 6777)), route(0, 0, leg(0, 0, 1))} {
		if !r.Right() {
			t.Error(i, "isn't right")
		}
	}
	for i, r := range wrong() {
		if r.Right() || r.Length() != 0 {
			t.Error(i, "is right")
		}
	}
}

// P21.1: where it is.
func TestAt(t *testing.T) {
	r := route(3, -4, leg(1, 2, 10), leg(-1000, 0, 2), leg(0, 7, 1))
	for _, c := range []struct {
		second int
		want   p
		e      api.Code
	}{
		{0, p{3, -4}, api.Fine}, {1, p{4, -2}, api.Fine}, {9, p{12, 14}, api.Fine}, {10, p{13, 16}, api.Fine}, {11, p{-987, 16}, api.Fine}, {12, p{-1987, 16}, api.Fine}, {13, p{-1987, 23}, api.Fine}, {14, p{-1987, 23}, api.Fine}, {math.MaxInt, p{-1987, 23}, api.Fine},
		{-1, p{}, api.Arg}, {math.MinInt, p{}, api.Arg},
	} {
		if got, e := r.At(c.second); got != c.want || e != c.e {
			t.Error(c, got, e)
		}
	}
	if r.Length() != 13 || route(1, 1).Length() != 0 {
		t.Error(r.Length())
	}
	if got, e := route(5, 6).At(99); got != (p{5, 6}) || e != api.Fine {
		t.Error(got, e)
	}
	for i, r := range wrong() {
		if got, e := r.At(-1); got != (p{}) || e != api.Form {
			t.Error(i, got, e)
		}
	}
}

// P21.1: distances.
func TestFar(t *testing.T) {
	for _, c := range []struct {
		p, q p
		want int
		e    api.Code
	}{
		{p{}, p{}, 0, api.Fine}, {p{1, 2}, p{4, 6}, 25, api.Fine}, {p{-1, 2}, p{4, -6}, 89, api.Fine}, {p{-edge, -edge}, p{edge, edge}, 1 << 51, api.Fine}, {p{-edge, -edge}, p{edge, edge - 1}, 1<<51 - 1<<26 + 1, api.Fine},
		{p{edge + 1, 0}, p{}, 0, api.Form}, {p{}, p{0, -edge - 1}, 0, api.Form}, {p{math.MinInt, 0}, p{math.MaxInt, 0}, 0, api.Form},
	} {
		if got, e := sky.Far(c.p, c.q); got != c.want || e != c.e {
			t.Error(c, got, e)
		}
	}
}

// P21.1: the nearest mast; of several the first one.
func TestNearest(t *testing.T) {
	many := make([]p, 64)
	many[63] = p{1, 1}
	for i, c := range []struct {
		masts []p
		at    p
		want  int
		e     api.Code
	}{
		{[]p{{0, 0}, {10, 0}}, p{5, 0}, 0, api.Fine}, {[]p{{0, 0}, {10, 0}}, p{6, 0}, 1, api.Fine}, {[]p{{10, 0}, {0, 0}}, p{5, 9}, 0, api.Fine}, {[]p{{9, 9}, {3, 4}, {5, 0}, {0, 5}}, p{}, 1, api.Fine},
		{many, p{1, 1}, 63, api.Fine}, {many, p{0, 1}, 0, api.Fine}, {[]p{{edge, edge}, {edge, edge - 1}}, p{-edge, -edge}, 1, api.Fine}, {[]p{{7, 7}}, p{edge, edge}, 0, api.Fine},
		{nil, p{}, 0, api.Form}, {make([]p, 65), p{}, 0, api.Form}, {[]p{{0, 0}, {0, edge + 1}}, p{}, 0, api.Form}, {[]p{{0, 0}, {1, 0}}, p{edge + 1, 0}, 0, api.Form}, {[]p{{0, 0}}, p{math.MaxInt, math.MinInt}, 0, api.Form},
	} {
		if got, e := sky.Nearest(c.masts, c.at); got != c.want || e != c.e {
			t.Error(i, got, e)
		}
	}
}

// P21.2: changes of the nearest mast.
func TestChanges(t *testing.T) {
	two := []p{{0, 0}, {10, 0}}
	for i, c := range []struct {
		masts []p
		r     sky.Route
		until int
		want  []sky.Change
		e     api.Code
	}{
		{two, route(0, 0, leg(1, 0, 100)), 100000, []sky.Change{{0, 0}, {6, 1}}, api.Fine},
		{two, route(0, 0, leg(1, 0, 100)), 6, []sky.Change{{0, 0}, {6, 1}}, api.Fine}, {two, route(0, 0, leg(1, 0, 100)), 5, []sky.Change{{0, 0}}, api.Fine}, {two, route(9, 0, leg(1, 0, 100)), 0, []sky.Change{{0, 1}}, api.Fine},
		{two, route(0, 0, leg(1, 0, 8), leg(-1, 0, 8), leg(100, 100, 1)), 50, []sky.Change{{0, 0}, {6, 1}, {11, 0}, {17, 1}}, api.Fine},
		{two, route(0, 0, leg(20, 0, 1), leg(-20, 0, 1), leg(20, 0, 1)), 2, []sky.Change{{0, 0}, {1, 1}, {2, 0}}, api.Fine}, {two, route(3, 3), 100000, []sky.Change{{0, 0}}, api.Fine},
		{nil, route(0, 0), 5, nil, api.Form}, {make([]p, 65), route(0, 0), -1, nil, api.Form}, {two, route(edge+1, 0), -1, nil, api.Form}, {two, route(0, 0), -1, nil, api.Arg}, {two, route(0, 0), 100001, nil, api.Arg}, {two, route(0, 0), math.MaxInt, nil, api.Arg}, {two, route(0, 0), math.MinInt, nil, api.Arg},
	} {
		if got, e := sky.Changes(c.masts, c.r, c.until); !slices.Equal(got, c.want) || e != c.e {
			t.Error(i, got, e)
		}
	}
}

// random tells whole numbers from -most to most, from a seed on.
type random uint64

func (r *random) next(most int) int {
	*r = *r*6364136223846793005 + 1442695040888963407
	return int(*r>>33)%(2*most+1) - most
}

// sky tells some masts, and a right route among them.
func (r *random) sky() ([]p, sky.Route) {
	var masts []p
	for range 5 {
		masts = append(masts, p{r.next(50), r.next(50)})
	}
	out := route(r.next(60), r.next(60))
	for range 6 {
		out.Legs = append(out.Legs, leg(r.next(5), r.next(5), 20+r.next(19)))
	}
	return masts, out
}

// P21.2: changes are what Nearest tells of each second.
func TestEachSecond(t *testing.T) {
	r := random(1)
	for range 60 {
		masts, way := r.sky()
		var want []sky.Change
		last := -1
		for second := 0; second <= 260; second++ {
			at, _ := way.At(second)
			if n, _ := sky.Nearest(masts, at); n != last {
				want = append(want, sky.Change{Second: second, Mast: n})
				last = n
			}
		}
		if got, e := sky.Changes(masts, way, 260); !slices.Equal(got, want) || e != api.Fine {
			t.Fatal(got, want)
		}
	}
}

// P21.2: by quarters.
func TestTurned(t *testing.T) {
	r := route(3, -4, leg(1, 2, 10), leg(-1000, 0, 2))
	for _, c := range []struct {
		quarters int
		want     sky.Route
	}{
		{0, r}, {1, route(4, 3, leg(-2, 1, 10), leg(0, -1000, 2))}, {2, route(-3, 4, leg(-1, -2, 10), leg(1000, 0, 2))}, {3, route(-4, -3, leg(2, -1, 10), leg(0, 1000, 2))},
		{4, r}, {-1, route(-4, -3, leg(2, -1, 10), leg(0, 1000, 2))}, {-2, route(-3, 4, leg(-1, -2, 10), leg(1000, 0, 2))}, {-3, route(4, 3, leg(-2, 1, 10), leg(0, -1000, 2))}, {-4, r},
		{math.MaxInt, route(-4, -3, leg(2, -1, 10), leg(0, 1000, 2))}, {math.MinInt, r},
	} {
		got, e := sky.Turned(r, c.quarters)
		if e != api.Fine || got.Start != c.want.Start || !slices.Equal(got.Legs, c.want.Legs) {
			t.Error(c.quarters, got, e)
		}
	}
	got, _ := sky.Turned(r, 0)
	got.Legs[0].Seconds = 99
	if r.Legs[0].Seconds != 10 {
		t.Error("legs are shared")
	}
	if got, e := sky.Turned(route(edge, -edge), 1); e != api.Fine || got.Start != (p{edge, edge}) {
		t.Error(got, e)
	}
	for i, r := range wrong() {
		if got, e := sky.Turned(r, 1); got.Start != (p{}) || len(got.Legs) != 0 || e != api.Form {
			t.Error(i, got, e)
		}
	}
}

// P21.3: masts and route turned alike have the same changes.
func TestAlike(t *testing.T) {
	r := random(2)
	for range 60 {
		masts, way := r.sky()
		want, _ := sky.Changes(masts, way, 500)
		for quarters := -5; quarters <= 5; quarters++ {
			var turned []p
			for _, m := range masts {
				x, _ := sky.Turned(route(m.X, m.Y), quarters)
				turned = append(turned, x.Start)
			}
			x, _ := sky.Turned(way, quarters)
			if got, e := sky.Changes(turned, x, 500); !slices.Equal(got, want) || e != api.Fine || x.Length() != way.Length() {
				t.Fatal(quarters, got, want)
			}
		}
	}
}
