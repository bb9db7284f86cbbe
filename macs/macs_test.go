package macs_test

import (
	"math"
	"strings"
	"testing"

	"snicket/api"
	"snicket/macs"
	"snicket/wire"
)

var (
	start  = api.Message{Kind: api.Init, Sender: 1000, Eph: "p(a3)", Static: "a5", Stamp: "n7", Mac1: "0", Mac2: "0"}
	answer = api.Message{Kind: api.Response, Sender: 5, Receiver: 6, Eph: "p(a4)", Empty: "x00", Mac1: "a8", Mac2: "a9"}
	data   = api.Message{Kind: api.Transport, Receiver: 7, Data: "0"}
)

const (
	mac1  = "m(h(x6d616331,p(a2)),l(n1,n1000,n0,p(a3),a5,n7))"
	mac1r = "m(h(x6d616331,p(a2)),l(n2,n5,n6,p(a4),x00))"
)

func change(m api.Message, f func(*api.Message)) api.Message {
	f(&m)
	return m
}

func long(size int) string {
	return "x" + strings.Repeat("00", size/2)
}

// P11.1: both sums, text by text.
func TestSign(t *testing.T) {
	for i, c := range []struct {
		m          api.Message
		cookie     string
		mac1, mac2 string
	}{
		{start, "", mac1, "0"},
		{start, "a6", mac1, "m(a6,l(l(n1,n1000,n0,p(a3),a5,n7)," + mac1 + "))"},
		{start, "m(a6,n3)", mac1, "m(m(a6,n3),l(l(n1,n1000,n0,p(a3),a5,n7)," + mac1 + "))"},
		{answer, "", mac1r, "0"},
		{answer, "0", mac1r, "m(0,l(l(n2,n5,n6,p(a4),x00)," + mac1r + "))"},
	} {
		want := change(c.m, func(m *api.Message) { m.Mac1, m.Mac2 = c.mac1, c.mac2 })
		if got, e := macs.Sign(c.m, "p(a2)", c.cookie); e != api.Fine || got != want {
			t.Errorf("%d: %v, %d", i, got, e)
		}
	}
}

// P11.1: what isn't signed.
func TestSignNone(t *testing.T) {
	half := api.Message{Kind: api.Init, Eph: "p(a3)", Static: long(20000), Stamp: "n7", Mac1: "0", Mac2: "0"}
	big := api.Message{Kind: api.Init, Eph: "p(a3)", Static: long(65000), Stamp: "n7", Mac1: "0", Mac2: "0"}
	body := len(wire.Body(change(start, func(m *api.Message) { m.Static = "x" })))
	edge := func(over int) api.Message { // its first sum has 65535 bytes, and so many more
		size := 65535 - len("m(h(x6d616331,p(a2)),)") - body + over
		return change(start, func(m *api.Message) {
			m.Static = long(size - size%2)
			if size%2 == 1 {
				m.Stamp = "n17"
			}
		})
	}
	for i, c := range []struct {
		m              api.Message
		public, cookie string
		want           api.Code
	}{
		{data, "p(a2)", "", api.Form}, {api.Message{Kind: api.CookieMsg, Nonce: "n1", Cookie: "0"}, "p(a2)", "", api.Form}, {api.Message{}, "p(a2)", "", api.Form},
		{change(start, func(m *api.Message) { m.Mac1 = "" }), "p(a2)", "", api.Form}, {change(start, func(m *api.Message) { m.Receiver = 1 }), "p(a2)", "", api.Form}, {change(answer, func(m *api.Message) { m.Empty = "y" }), "p(a2)", "", api.Form},
		{start, "", "", api.Form}, {start, "a2", "", api.Form}, {start, "p(y)", "", api.Form}, {start, "p(a2)", "y", api.Form}, {start, "p(a2)", "a01", api.Form},
		{big, "p(a2)", "y", api.Form}, {big, "a2", "", api.Form},
		{big, "p(" + long(600) + ")", "", api.Long}, {start, "p(" + long(65500) + ")", "", api.Long},
		{half, "p(a2)", "", api.Fine}, {half, "p(a2)", "a6", api.Fine}, {start, "p(a2)", long(65460), api.Long}, {change(half, func(m *api.Message) { m.Static = long(40000) }), "p(a2)", "a6", api.Long}, {change(half, func(m *api.Message) { m.Static = long(40000) }), "p(a2)", "", api.Fine},
		{edge(0), "p(a2)", "", api.Fine}, {edge(1), "p(a2)", "", api.Long}, {edge(2), "p(a2)", "", api.Long},
	} {
		got, e := macs.Sign(c.m, c.public, c.cookie)
		if e != c.want || e != api.Fine && got != (api.Message{}) {
			t.Errorf("%d: %d", i, e)
		}
	}
	if got, _ := macs.Sign(edge(0), "p(a2)", ""); len(got.Mac1) != 65535 {
		t.Error("the edge is at", len(got.Mac1))
	}
}

// P11.1: whose sums are right.
func TestFirst(t *testing.T) {
	good, _ := macs.Sign(start, "p(a2)", "a6")
	other, _ := macs.Sign(change(start, func(m *api.Message) { m.Sender = 1 }), "p(a2)", "a6")
	for i, c := range []struct {
		m              api.Message
		public, cookie string
		first, second  bool
	}{
		{good, "p(a2)", "a6", true, true}, {good, "p(a1)", "a7", false, false}, {good, "a2", "", false, false}, {good, "", "0", false, false}, {good, "p(a2", "y", false, false},
		{start, "p(a2)", "a6", false, false},
		{change(good, func(m *api.Message) { m.Mac2 = "0" }), "p(a2)", "a6", true, false},
		{change(good, func(m *api.Message) { m.Mac1 = "0" }), "p(a2)", "a6", false, false},
		{change(good, func(m *api.Message) { m.Sender++ }), "p(a2)", "a6", false, false},
		{change(good, func(m *api.Message) { m.Eph = "p(a9)" }), "p(a2)", "a6", false, false},
		{change(good, func(m *api.Message) { m.Stamp = "n8" }), "p(a2)", "a6", false, false},
		{change(good, func(m *api.Message) { m.Mac1 = other.Mac1 }), "p(a2)", "a6", false, false},
		{change(good, func(m *api.Message) { m.Mac2 = other.Mac2 }), "p(a2)", "a6", true, false},
		{change(good, func(m *api.Message) { m.Mac2 = "" }), "p(a2)", "a6", false, false},
		{change(good, func(m *api.Message) { m.Counter = 1 }), "p(a2)", "a6", false, false},
		{data, "p(a2)", "a6", false, false}, {api.Message{}, "p(a2)", "", false, false},
		{api.Message{Kind: api.CookieMsg, Nonce: "n1", Cookie: "0"}, "p(a2)", "a6", false, false},
	} {
		if macs.First(c.m, c.public) != c.first || macs.Second(c.m, c.cookie) != c.second {
			t.Errorf("%d: %v, %v", i, macs.First(c.m, c.public), macs.Second(c.m, c.cookie))
		}
	}
	none, _ := macs.Sign(answer, "p(a2)", "")
	if !macs.First(none, "p(a2)") || macs.Second(none, "0") || macs.Second(none, "") {
		t.Error("without a cookie")
	}
}

// P11.2: cookies.
func TestCookie(t *testing.T) {
	for _, c := range []struct {
		secret  string
		address int
		want    string
	}{
		{"a6", 0, "m(a6,n0)"}, {"h(a6)", 27, "m(h(a6),n27)"}, {"a6", math.MaxInt, "m(a6,n9223372036854775807)"},
		{"a6", -1, ""}, {"a6", math.MinInt, ""}, {"", 1, ""}, {"y", 1, ""}, {long(65532), 1, ""},
	} {
		if got := macs.Cookie(c.secret, c.address); got != c.want {
			t.Errorf("Cookie(%.20q, %d) = %.20q", c.secret, c.address, got)
		}
	}
}

// P11.2: refusals, text by text, and what isn't refused.
func TestRefuse(t *testing.T) {
	good, _ := macs.Sign(start, "p(a2)", "")
	want := api.Message{Kind: api.CookieMsg, Receiver: 1000, Nonce: "n4", Cookie: "s(4,h(x636f6f6b6965,p(a2)),m(a6,n3)," + mac1 + ")"}
	if got, e := macs.Refuse(good, "p(a2)", "m(a6,n3)", 4); e != api.Fine || got != want {
		t.Error(got, e)
	}
	if got, e := macs.Refuse(answer, "p(a2)", "0", math.MaxUint64); e != api.Fine || got.Receiver != 5 || got.Nonce != "n18446744073709551615" || got.Cookie != "s(18446744073709551615,h(x636f6f6b6965,p(a2)),0,a8)" {
		t.Error(got, e)
	}
	for i, c := range []struct {
		m              api.Message
		public, cookie string
		want           api.Code
	}{
		{data, "p(a2)", "a6", api.Form}, {want, "p(a2)", "a6", api.Form}, {api.Message{}, "p(a2)", "a6", api.Form}, {change(good, func(m *api.Message) { m.Mac2 = "" }), "p(a2)", "a6", api.Form},
		{good, "a2", "a6", api.Form}, {good, "", "a6", api.Form}, {good, "p(a2)", "", api.Form}, {good, "p(a2)", "y", api.Form},
		{good, "p(" + long(65500) + ")", "a6", api.Long}, {good, "p(a2)", long(65500), api.Long}, {change(good, func(m *api.Message) { m.Mac1 = long(65520) }), "p(a2)", "a6", api.Long},
	} {
		if got, e := macs.Refuse(c.m, c.public, c.cookie, 1); e != c.want || got != (api.Message{}) {
			t.Errorf("%d: %d", i, e)
		}
	}
}

// P11.2: which refusals are accepted.
func TestAccept(t *testing.T) {
	good := api.Message{Kind: api.CookieMsg, Receiver: 1000, Nonce: "n4", Cookie: "s(4,h(x636f6f6b6965,p(a2)),m(a6,n3),a8)"}
	for i, c := range []struct {
		m            api.Message
		public, mac1 string
		want         string
		e            api.Code
	}{
		{good, "p(a2)", "a8", "m(a6,n3)", api.Fine},
		{change(good, func(m *api.Message) { m.Receiver = 1 }), "p(a2)", "a8", "m(a6,n3)", api.Fine},
		{start, "p(a2)", "a8", "", api.Form}, {data, "p(a2)", "a8", "", api.Form}, {api.Message{}, "p(a2)", "a8", "", api.Form},
		{change(good, func(m *api.Message) { m.Cookie = "" }), "p(a2)", "a8", "", api.Form}, {change(good, func(m *api.Message) { m.Sender = 1 }), "p(a2)", "a8", "", api.Form},
		{change(good, func(m *api.Message) { m.Nonce = "a4" }), "p(a2)", "a8", "", api.Form}, {change(good, func(m *api.Message) { m.Nonce = "s(4,0,0,0)" }), "p(a2)", "a8", "", api.Form},
		{good, "a2", "a8", "", api.Form}, {good, "", "a8", "", api.Form},
		{good, "p(a1)", "a8", "", api.Key}, {good, "p(a2)", "a9", "", api.Key}, {good, "p(a2)", "", "", api.Key}, {change(good, func(m *api.Message) { m.Nonce = "n5" }), "p(a2)", "a8", "", api.Key},
		{change(good, func(m *api.Message) { m.Cookie = "0" }), "p(a2)", "a8", "", api.Key}, {good, "p(" + long(65500) + ")", "a8", "", api.Key},
	} {
		if got, e := macs.Accept(c.m, c.public, c.mac1); e != c.e || got != c.want {
			t.Errorf("%d: %q, %d", i, got, e)
		}
	}
}

// P11.3: what is signed is so, for nobody else; a refusal is accepted by its sender.
func TestBoth(t *testing.T) {
	publics := []string{"p(a1)", "p(a2)", "p(p(a1))", "p(0)"}
	cookies := []string{"a1", "a2", "m(a1,n1)", "0"}
	for i, public := range publics {
		for j, cookie := range cookies {
			m, _ := macs.Sign([]api.Message{start, answer}[(i+j)%2], public, cookie)
			r, e := macs.Refuse(m, public, cookie, uint64(j))
			if e != api.Fine || r.Receiver != m.Sender {
				t.Fatal(r, e)
			}
			for x := range publics {
				if macs.First(m, publics[x]) != (x == i) || macs.Second(m, cookies[x]) != (x == j) {
					t.Error("signed for", publics[x], cookies[x])
				}
				got, e := macs.Accept(r, publics[x], m.Mac1)
				if x == i && (got != cookie || e != api.Fine) || x != i && e != api.Key {
					t.Error(got, e)
				}
			}
		}
	}
}
