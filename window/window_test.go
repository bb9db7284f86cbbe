package window_test

import (
	"math"
	"testing"

	"snicket/api"
	"snicket/window"
)

// model is a window as the document's words say it.
type model struct {
	took map[uint64]bool
	top  uint64
}

func (m *model) would(c uint64) api.Code {
	if c >= api.MaxCount {
		return api.Limit
	}
	if m.took[c] || c <= m.top && m.top-c >= api.Window {
		return api.Stale
	}
	return api.Fine
}

func (m *model) take(c uint64) {
	m.took[c] = true
	m.top = max(m.top, c)
}

func (m *model) missing() int {
	n := 0
	for i := uint64(0); len(m.took) > 0 && i < api.Window && i <= m.top; i++ {
		if !m.took[m.top-i] {
			n++
		}
	}
	return n
}

func look(t *testing.T, w *window.Window, m *model, what any) {
	t.Helper()
	if top, ok := w.Top(); top != m.top || ok != (len(m.took) > 0) {
		t.Fatalf("%v: the top is %d, %v", what, top, ok)
	}
	if n := w.Missing(); n != m.missing() {
		t.Fatalf("%v: %d are missing, not %d", what, n, m.missing())
	}
}

// P7.1: the example, code by code.
func TestExample(t *testing.T) {
	w := window.New()
	if top, ok := w.Top(); top != 0 || ok || w.Missing() != 0 {
		t.Error("a new one took something")
	}
	for i, c := range []struct {
		c uint64
		e api.Code
	}{{5, api.Fine}, {3, api.Fine}, {5, api.Stale}, {3, api.Stale}, {2052, api.Fine}, {4, api.Stale}, {5, api.Stale}, {6, api.Fine}, {6, api.Stale}, {0, api.Stale}, {2053, api.Fine}, {2052, api.Stale}} {
		if e := w.Would(c.c); e != c.e {
			t.Errorf("%d: Would(%d) = %d", i, c.c, e)
		}
		if e := w.Take(c.c); e != c.e {
			t.Errorf("%d: Take(%d) = %d", i, c.c, e)
		}
	}
	if top, ok := w.Top(); top != 2053 || !ok {
		t.Error("the top is", top)
	}
}

// P7.1: the ends of what is taken.
func TestEnds(t *testing.T) {
	for _, top := range []uint64{0, 1, 63, 64, 2047, 2048, 2049, 4095, 1 << 32, 1<<63 - 1, 1 << 63, api.MaxCount - 1} {
		w, m := window.New(), &model{took: map[uint64]bool{}}
		if w.Take(top) != api.Fine {
			t.Fatal(top, "isn't taken")
		}
		m.take(top)
		look(t, w, m, top)
		for _, down := range []uint64{0, 1, 63, 64, 65, 127, 128, 1983, 1984, 2046, 2047, 2048, 2049, 2111, 2112, 4000} {
			if down > top {
				continue
			}
			if e := w.Take(top - down); e != m.would(top-down) {
				t.Fatalf("%d below %d: %d", down, top, e)
			}
			if m.would(top-down) == api.Fine {
				m.take(top - down)
			}
			look(t, w, m, top)
		}
	}
	w := window.New()
	for _, c := range []uint64{api.MaxCount, api.MaxCount + 1, math.MaxUint64} {
		if w.Would(c) != api.Limit || w.Take(c) != api.Limit {
			t.Error(c, "is taken")
		}
	}
	if _, ok := w.Top(); ok || w.Missing() != 0 {
		t.Error("a refused counter changed something")
	}
	w.Take(api.MaxCount - 1)
	if w.Take(api.MaxCount) != api.Limit || w.Take(api.MaxCount-1) != api.Stale || w.Take(api.MaxCount-2) != api.Fine {
		t.Error("the end")
	}
}

// P7.1, P7.2, P7.3: long rows of counters, with leaps of all sizes, as the words
// have them; none is taken twice; who was too old stays so.
func TestRows(t *testing.T) {
	leaps := []uint64{0, 1, 2, 5, 63, 64, 65, 200, 640, 2000, 2047, 2048, 2049, 2112, 5000, 1 << 20, 1 << 40}
	for _, start := range []uint64{0, 7, 2040, 1 << 33, 1<<63 - 3000} {
		w, m := window.New(), &model{took: map[uint64]bool{}}
		old := map[uint64]bool{}
		seed, at := start+1, start
		for i := 0; i < 6000; i++ {
			seed = seed*6364136223846793005 + 1442695040888963407
			r := seed >> 33
			c := at
			if r%8 == 0 {
				c += leaps[r/8%uint64(len(leaps))]
			} else if down := r / 8 % 2200; down <= at {
				c -= down
			}
			want := m.would(c)
			if got := w.Would(c); got != want {
				t.Fatalf("%d at %d: would %d", c, m.top, got)
			}
			if got := w.Take(c); got != want || old[c] && got != api.Stale {
				t.Fatalf("%d at %d: %d, not %d", c, m.top, got, want)
			}
			if want == api.Fine {
				m.take(c)
			} else if !m.took[c] {
				old[c] = true
			}
			at = m.top
			if i%50 == 0 {
				look(t, w, m, i)
			}
		}
		look(t, w, m, start)
	}
}

// P7.1: Would changes nothing.
func TestWould(t *testing.T) {
	w := window.New()
	w.Take(10)
	for _, c := range []uint64{11, 9, 5000, 0, api.MaxCount - 1} {
		w.Would(c)
		if w.Would(c) != api.Fine || w.Missing() != 10 {
			t.Error("Would takes", c)
		}
	}
	if top, _ := w.Top(); top != 10 {
		t.Error("Would changes the top")
	}
}

// P7.2: how many are missing.
func TestMissing(t *testing.T) {
	w := window.New()
	for i, c := range []struct {
		c    uint64
		want int
	}{{0, 0}, {1, 0}, {3, 1}, {2, 0}, {2047, 2043}, {2048, 2043}, {2049, 2043}, {2051, 2044}, {2052, 2043}, {10000, 2047}, {9999, 2046}, {1 << 60, 2047}} {
		if w.Take(c.c); w.Missing() != c.want {
			t.Errorf("%d: %d are missing", i, w.Missing())
		}
	}
	w = window.New()
	if w.Take(2047); w.Missing() != 2047 {
		t.Error(w.Missing())
	}
	w = window.New()
	if w.Take(2048); w.Missing() != 2047 {
		t.Error(w.Missing())
	}
}

// P7.2: a clone goes on by itself.
func TestClone(t *testing.T) {
	w := window.New()
	w.Take(70)
	w.Take(5)
	c := w.Clone()
	if c == w || c.Take(5) != api.Stale || c.Take(70) != api.Stale || c.Missing() != w.Missing() {
		t.Error("it took something else")
	}
	if c.Take(6) != api.Fine || c.Take(100) != api.Fine || w.Take(6) != api.Fine || w.Take(7) != api.Fine || c.Take(7) != api.Fine {
		t.Error("they go on together")
	}
	if top, _ := w.Top(); top != 70 {
		t.Error("they go on together")
	}
	if top, ok := window.New().Clone().Top(); top != 0 || ok {
		t.Error("the clone of a new one")
	}
}

// R1: a nil window.
func TestNil(t *testing.T) {
	var w *window.Window
	top, ok := w.Top()
	if w.Take(1) != api.Nil || w.Would(api.MaxCount) != api.Nil || top != 0 || ok || w.Missing() != 0 || w.Clone() != nil {
		t.Error("a nil window tells something")
	}
}
