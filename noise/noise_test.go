package noise_test

import (
	"strconv"
	"strings"
	"testing"

	"snicket/api"
	"snicket/noise"
	"snicket/wire"
)

// The document's table, written out by plain texts.
func k(n int, key, u string) string { return "k(" + strconv.Itoa(n) + "," + key + "," + u + ")" }
func h(l ...string) string          { return "h(" + strings.Join(l, ",") + ")" }
func seal(key, u, v string) string  { return "s(0," + key + "," + u + "," + v + ")" }

// table is all that a beginner a1 with a3, and a hearer a2 with a4, who share q, make.
func table(stamp, q string) (static, sealed, c3, h3, empty, forth, back string) {
	c0 := h("x736e69636b6574")
	h0 := h(c0, "p(a2)")
	c1, h1 := k(1, c0, "p(a3)"), h(h0, "p(a3)")
	c2 := k(1, c1, "d(a2,a3)")
	static = seal(k(2, c1, "d(a2,a3)"), "p(a1)", h1)
	h2 := h(h1, static)
	c3 = k(1, c2, "d(a1,a2)")
	sealed = seal(k(2, c2, "d(a1,a2)"), "n"+stamp, h2)
	h3 = h(h2, sealed)
	c4, h4 := k(1, c3, "p(a4)"), h(h3, "p(a4)")
	c5 := k(1, c4, "d(a3,a4)")
	c6 := k(1, c5, "d(a1,a4)")
	c7 := k(1, c6, q)
	empty = seal(k(3, c6, q), "0", h(h4, k(2, c6, q)))
	return static, sealed, c3, h3, empty, k(1, c7, "0"), k(2, c7, "0")
}

func begin(t *testing.T) (api.Message, noise.Start) {
	t.Helper()
	m, st, e := noise.Begin("a1", "a3", "p(a2)", 7, 1000)
	if e != api.Fine {
		t.Fatal(e)
	}
	return m, st
}

func hear(t *testing.T) noise.Heard {
	t.Helper()
	m, _ := begin(t)
	heard, e := noise.Hear("a2", m)
	if e != api.Fine {
		t.Fatal(e)
	}
	return heard
}

// P10.1, P10.2, P10.3: all that is made, text by text.
func TestTable(t *testing.T) {
	for _, q := range []string{"0", "a9", "h(a9,n1)"} {
		static, sealed, c3, h3, empty, forth, back := table("7", q)
		m, st, e := noise.Begin("a1", "a3", "p(a2)", 7, 1000)
		if want := (api.Message{Kind: api.Init, Sender: 1000, Eph: "p(a3)", Static: static, Stamp: sealed, Mac1: "0", Mac2: "0"}); e != api.Fine || m != want {
			t.Error("the Init is", m, e)
		}
		if want := (noise.Start{Sender: 1000, Eph: "a3", C: c3, H: h3}); st != want {
			t.Error("kept is", st)
		}
		heard, e := noise.Hear("a2", m)
		if want := (noise.Heard{Remote: 1000, Public: "p(a1)", Stamp: 7, Eph: "p(a3)", C: c3, H: h3}); e != api.Fine || heard != want {
			t.Error("heard is", heard, e)
		}
		r, keys, e := noise.Answer(heard, "a4", q, 2000)
		if want := (api.Message{Kind: api.Response, Sender: 2000, Receiver: 1000, Eph: "p(a4)", Empty: empty, Mac1: "0", Mac2: "0"}); e != api.Fine || r != want {
			t.Error("the Response is", r, e)
		}
		if want := (noise.Keys{Send: back, Receive: forth}); keys != want {
			t.Error("the hearer's keys are", keys)
		}
		keys, e = noise.Finish(st, "a1", q, r)
		if want := (noise.Keys{Send: forth, Receive: back}); e != api.Fine || keys != want {
			t.Error("the beginner's keys are", keys, e)
		}
	}
	_, sealed, _, _, _, _, _ := table("18446744073709551615", "0")
	if m, _, _ := noise.Begin("a1", "a3", "p(a2)", 1<<64-1, 0); m.Stamp != sealed {
		t.Error("the greatest stamp")
	}
}

func long(size int) string {
	return "x" + strings.Repeat("00", size/2)
}

// P10.1: what can't begin.
func TestBegin(t *testing.T) {
	for _, c := range []struct {
		s, e, public string
		want         api.Code
	}{
		{"", "a3", "p(a2)", api.Form}, {"a01", "a3", "p(a2)", api.Form}, {"a1", "", "p(a2)", api.Form}, {"a1", "y", "p(a2)", api.Form},
		{"a1", "a3", "", api.Form}, {"a1", "a3", "a2", api.Form}, {"a1", "a3", "h(a2)", api.Form}, {"a1", "a3", "p(a2", api.Form},
		{long(65000), "a3", "p(a2)", api.Long}, {"a1", long(65000), "p(a2)", api.Long}, {"a1", "a3", "p(" + long(65000) + ")", api.Long},
		{long(30000), long(30000), "p(a2)", api.Long}, {long(65000), "a3", "a2", api.Form}, {long(70000), "a3", "p(a2)", api.Form},
		{"0", "n7", "p(p(a2))", api.Fine}, {"a1", "a1", "p(a1)", api.Fine}, {long(1000), long(1000), "p(" + long(1000) + ")", api.Fine},
	} {
		m, st, e := noise.Begin(c.s, c.e, c.public, 1, 2)
		if e != c.want || e != api.Fine && (m != api.Message{} || st != noise.Start{}) {
			t.Errorf("Begin(%.20q, %.20q, %.20q): %d", c.s, c.e, c.public, e)
		}
	}
}

// P10.2: what a hearer doesn't take, in the order of the errors.
func TestHear(t *testing.T) {
	was, _ := begin(t)
	change := func(f func(*api.Message)) api.Message {
		m := was
		f(&m)
		return m
	}
	other, _, _ := noise.Begin("a1", "a3", "p(a2)", 8, 1000)
	static, _, _, _, _, _, _ := table("7", "0")
	inner := strings.Replace(static, ",p(a1),", ",a1,", 1)
	h1 := h(h(h("x736e69636b6574"), "p(a2)"), "p(a3)")
	c2 := k(1, k(1, h("x736e69636b6574"), "p(a3)"), "d(a2,a3)")
	noNumber := seal(k(2, c2, "d(a1,a2)"), "a7", h(h1, static))
	for i, c := range []struct {
		r    string
		m    api.Message
		want api.Code
	}{
		{"", was, api.Form}, {"y", was, api.Form},
		{"a2", api.Message{}, api.Form},
		{"a2", change(func(m *api.Message) { m.Mac1 = "" }), api.Form},
		{"a2", change(func(m *api.Message) { m.Mac2 = "y" }), api.Form},
		{"a2", change(func(m *api.Message) { m.Receiver = 1 }), api.Form},
		{"a2", change(func(m *api.Message) { m.Data = "0" }), api.Form},
		{"a2", change(func(m *api.Message) { m.Static = "" }), api.Form},
		{"a2", change(func(m *api.Message) { m.Eph = "a3" }), api.Form},
		{"a2", api.Message{Kind: api.Response, Sender: 1, Eph: "p(a3)", Empty: "0", Mac1: "0", Mac2: "0"}, api.Form},
		{"a2", api.Message{Kind: api.Transport, Data: "0"}, api.Form},
		{"a3", was, api.Key}, {"a1", was, api.Key}, {"0", was, api.Key},
		{"a2", change(func(m *api.Message) { m.Eph = "p(a4)" }), api.Key},
		{"a2", change(func(m *api.Message) { m.Static = "0" }), api.Key},
		{"a2", change(func(m *api.Message) { m.Static = strings.Replace(m.Static, "s(0", "s(1", 1) }), api.Key},
		{"a2", change(func(m *api.Message) { m.Stamp = "n7" }), api.Key},
		{"a2", change(func(m *api.Message) { m.Stamp = strings.Replace(m.Stamp, "s(0", "s(1", 1) }), api.Key},
		{"a2", change(func(m *api.Message) { m.Static = inner }), api.Form},
		{"a2", change(func(m *api.Message) { m.Static, m.Stamp = inner, "0" }), api.Form},
		{"a2", change(func(m *api.Message) { m.Stamp = noNumber }), api.Form},
		{"a2", change(func(m *api.Message) { m.Static = strings.Replace(m.Static, ",p(a1),", ",p(a5),", 1) }), api.Key},
		{"a2", change(func(m *api.Message) { m.Stamp = other.Stamp }), api.Fine},
		{"a2", change(func(m *api.Message) { m.Mac1, m.Mac2 = "a1", "m(a1,a2)" }), api.Fine},
		{"a2", change(func(m *api.Message) { m.Sender = 5 }), api.Fine},
	} {
		got, e := noise.Hear(c.r, c.m)
		if e != c.want || e != api.Fine && got != (noise.Heard{}) {
			t.Errorf("%d: %v, %d", i, got, e)
		}
		if e == api.Fine && got.Remote != c.m.Sender {
			t.Errorf("%d: from %d", i, got.Remote)
		}
	}
}

// P10.2: where the last sum were too long.
func TestHearLong(t *testing.T) {
	s := long(22000)
	c0 := h("x736e69636b6574")
	c1, h1 := k(1, c0, "p(a3)"), h(h(c0, "p(a2)"), "p(a3)")
	static := seal(k(2, c1, "d(a2,a3)"), "p("+s+")", h1)
	c2 := k(1, c1, "d(a2,a3)")
	m := api.Message{Kind: api.Init, Eph: "p(a3)", Static: static, Stamp: seal(k(2, c2, "d(a2,"+s+")"), "n1", h(h1, static)), Mac1: "0", Mac2: "0"}
	if len(wire.Terms(m)) == 0 {
		t.Fatal("that is no message")
	}
	if got, e := noise.Hear("a2", m); e != api.Long && e != api.Key && e != api.Form || got != (noise.Heard{}) {
		t.Error("it is heard", e)
	}
}

// P10.3: what can't be answered.
func TestAnswer(t *testing.T) {
	was := hear(t)
	change := func(f func(*noise.Heard)) noise.Heard {
		x := was
		f(&x)
		return x
	}
	for i, c := range []struct {
		heard noise.Heard
		f, q  string
		want  api.Code
	}{
		{was, "", "0", api.Form}, {was, "y", "0", api.Form}, {was, "a4", "", api.Form}, {was, "a4", "y", api.Form},
		{change(func(x *noise.Heard) { x.Public = "a1" }), "a4", "0", api.Form}, {change(func(x *noise.Heard) { x.Eph = "h(a1)" }), "a4", "0", api.Form},
		{change(func(x *noise.Heard) { x.C = "" }), "a4", "0", api.Form}, {change(func(x *noise.Heard) { x.H = "y" }), "a4", "0", api.Form}, {noise.Heard{}, "a4", "0", api.Form},
		{was, long(65000), "0", api.Long}, {was, "a4", long(65000), api.Long}, {change(func(x *noise.Heard) { x.C = long(65400) }), "a4", "0", api.Long},
		{change(func(x *noise.Heard) { x.H = long(65500) }), "a4", "0", api.Long}, {change(func(x *noise.Heard) { x.Public = "p(" + long(65000) + ")" }), "a4", "0", api.Long},
		{change(func(x *noise.Heard) { x.C, x.H = "0", "n1" }), "a4", "a5", api.Fine},
	} {
		m, keys, e := noise.Answer(c.heard, c.f, c.q, 1)
		if e != c.want || e != api.Fine && (m != api.Message{} || keys != noise.Keys{}) {
			t.Errorf("%d: %d", i, e)
		}
	}
}

// P10.3: what can't be finished, in the order of the errors.
func TestFinish(t *testing.T) {
	_, was := begin(t)
	answer, _, _ := noise.Answer(hear(t), "a4", "a9", 2000)
	change := func(f func(*noise.Start, *api.Message)) (noise.Start, api.Message) {
		st, m := was, answer
		f(&st, &m)
		return st, m
	}
	_, _, _, _, empty, _, _ := table("7", "a9")
	for i, c := range []struct {
		s, q string
		f    func(*noise.Start, *api.Message)
		want api.Code
	}{
		{"", "a9", func(*noise.Start, *api.Message) {}, api.Form}, {"a1", "", func(*noise.Start, *api.Message) {}, api.Form}, {"a1", "y", func(*noise.Start, *api.Message) {}, api.Form},
		{"a1", "a9", func(st *noise.Start, m *api.Message) { st.Eph = "" }, api.Form}, {"a1", "a9", func(st *noise.Start, m *api.Message) { st.C = "y" }, api.Form}, {"a1", "a9", func(st *noise.Start, m *api.Message) { st.H = "" }, api.Form},
		{"a1", "a9", func(st *noise.Start, m *api.Message) { *m = api.Message{} }, api.Form}, {"a1", "a9", func(st *noise.Start, m *api.Message) { m.Mac1 = "" }, api.Form}, {"a1", "a9", func(st *noise.Start, m *api.Message) { m.Eph = "a4" }, api.Form},
		{"a1", "a9", func(st *noise.Start, m *api.Message) { m.Kind = api.Init }, api.Form}, {"a1", "a9", func(st *noise.Start, m *api.Message) { m.Eph, m.Receiver = "a4", 1 }, api.Form},
		{"a1", "a9", func(st *noise.Start, m *api.Message) {
			*m = api.Message{Kind: api.Init, Sender: 1, Eph: "p(a1)", Static: "0", Stamp: "0", Mac1: "0", Mac2: "0"}
		}, api.Form},
		{"a1", "a9", func(st *noise.Start, m *api.Message) { m.Receiver = 1001 }, api.None}, {"a1", "a9", func(st *noise.Start, m *api.Message) { st.Sender = 999 }, api.None}, {"a2", "0", func(st *noise.Start, m *api.Message) { m.Receiver, m.Empty = 1, "0" }, api.None},
		{"a1", "0", func(*noise.Start, *api.Message) {}, api.Key}, {"a2", "a9", func(*noise.Start, *api.Message) {}, api.Key}, {"a1", "a9", func(st *noise.Start, m *api.Message) { st.Eph = "a5" }, api.Key},
		{"a1", "a9", func(st *noise.Start, m *api.Message) { st.C = "0" }, api.Key}, {"a1", "a9", func(st *noise.Start, m *api.Message) { st.H = "0" }, api.Key}, {"a1", "a9", func(st *noise.Start, m *api.Message) { m.Eph = "p(a5)" }, api.Key},
		{"a1", "a9", func(st *noise.Start, m *api.Message) { m.Empty = "0" }, api.Key}, {"a1", "a9", func(st *noise.Start, m *api.Message) { m.Empty = strings.Replace(empty, ",0,", ",n0,", 1) }, api.Key},
		{"a1", "a9", func(st *noise.Start, m *api.Message) { m.Empty = strings.Replace(empty, "s(0", "s(1", 1) }, api.Key},
		{"a1", "a9", func(st *noise.Start, m *api.Message) { m.Sender, m.Mac1, m.Mac2 = 5, "a1", "a2" }, api.Fine},
	} {
		st, m := change(c.f)
		keys, e := noise.Finish(st, c.s, c.q, m)
		if e != c.want || e != api.Fine && keys != (noise.Keys{}) {
			t.Errorf("%d: %v, %d", i, keys, e)
		}
	}
	st, m := was, answer
	st.C = long(65500)
	if _, e := noise.Finish(st, "a1", "a9", m); e != api.Long && e != api.Key {
		t.Error("a chain above MaxTerm:", e)
	}
}

// P10.4: whoever they are, both have the same keys, and each pair its own.
func TestBoth(t *testing.T) {
	seen := map[string]bool{}
	secrets := []string{"a1", "a22", "a333", "h(a4)", "n5", "0"}
	for i, s := range secrets {
		for j, r := range secrets {
			n := strconv.Itoa(100 + 10*i + j)
			q := []string{"0", "a50", "l(a50,x00)"}[(i+j)%3]
			m, st, e1 := noise.Begin(s, "a1"+n, "p("+r+")", uint64(i), uint32(j))
			heard, e2 := noise.Hear(r, m)
			a, his, e3 := noise.Answer(heard, "a2"+n, q, uint32(i+100))
			mine, e4 := noise.Finish(st, s, q, a)
			if e1+e2+e3+e4 != api.Fine || mine.Send != his.Receive || mine.Receive != his.Send || mine.Send == mine.Receive || heard.Public != "p("+s+")" || heard.Stamp != uint64(i) {
				t.Fatal(s, r, e1, e2, e3, e4)
			}
			if seen[mine.Send] || seen[mine.Receive] {
				t.Fatal("keys come twice")
			}
			seen[mine.Send], seen[mine.Receive] = true, true
			if len(wire.Terms(m)) != 5 || len(wire.Terms(a)) != 4 {
				t.Fatal("no messages")
			}
		}
	}
}
