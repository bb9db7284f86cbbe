package wire_test

import (
	"bytes"
	"strings"
	"testing"

	"snicket/api"
	"snicket/term"
	"snicket/wire"
)

var (
	start  = api.Message{Kind: api.Init, Sender: 1000, Eph: "p(a1)", Static: "s(0,a2,p(a3),0)", Stamp: "n7", Mac1: "m(a4,a5)", Mac2: "0"}
	answer = api.Message{Kind: api.Response, Sender: 0x04030201, Receiver: 0xfffefdfc, Eph: "p(a6)", Empty: "0", Mac1: "a7", Mac2: "x0102"}
	cookie = api.Message{Kind: api.CookieMsg, Receiver: 9, Nonce: "n4", Cookie: "s(4,a1,a2,a3)"}
	data   = api.Message{Kind: api.Transport, Receiver: 7, Counter: 1, Data: "0"}
)

func messages() []api.Message {
	return []api.Message{start, answer, cookie, data}
}

// long is a term of so many bytes, even or odd.
func long(size int) string {
	if size%2 == 1 {
		return "x" + strings.Repeat("0", size-1)
	}
	return "p(x" + strings.Repeat("0", size-4) + ")"
}

func text(l ...string) string {
	var out []byte
	for _, s := range l {
		out = append(out, byte(len(s)), byte(len(s)>>8))
		out = append(out, s...)
	}
	return string(out)
}

// P6.1: the bytes of each kind.
func TestPrint(t *testing.T) {
	for i, want := range []string{
		"\x01\x00\x00\x00\xe8\x03\x00\x00" + text("p(a1)", "s(0,a2,p(a3),0)", "n7", "m(a4,a5)", "0"),
		"\x02\x00\x00\x00\x01\x02\x03\x04\xfc\xfd\xfe\xff" + text("p(a6)", "0", "a7", "x0102"),
		"\x03\x00\x00\x00\x09\x00\x00\x00" + text("n4", "s(4,a1,a2,a3)"),
		"\x04\x00\x00\x00\x07\x00\x00\x00\x01\x00\x00\x00\x00\x00\x00\x00\x01\x000",
	} {
		m := messages()[i]
		if b, e := wire.Print(m); e != api.Fine || string(b) != want {
			t.Errorf("Print(%v) = %q, %d", m, b, e)
		}
		if got, e := wire.Read([]byte(want)); e != api.Fine || got != m {
			t.Errorf("Read(%q) = %v, %d", want, got, e)
		}
	}
	m := data
	m.Counter = 0x0807060504030201
	if b, _ := wire.Print(m); string(b[8:16]) != "\x01\x02\x03\x04\x05\x06\x07\x08" {
		t.Errorf("the counter is %q", b[8:16])
	}
}

// P6.1, P6.2: what is no message isn't printed, and tells nothing.
func TestPrintNone(t *testing.T) {
	var l []api.Message
	for _, k := range []int{0, 5, -1, 256, 257, 1 << 40} {
		m := start
		m.Kind = k
		l = append(l, m, api.Message{Kind: k})
	}
	for _, f := range fields() {
		for _, m := range messages() {
			was := m
			f(&m, "a1")
			if was.Kind == m.Kind && !has(was, f) {
				l = append(l, m) // a field that its row doesn't name
				continue
			}
			for _, s := range []string{"", "y", "a01", "p(a1", long(65536)} {
				m = was
				f(&m, s)
				l = append(l, m)
			}
		}
	}
	m := start
	m.Receiver = 1
	l = append(l, m)
	m = start
	m.Counter = 1
	l = append(l, m)
	m = answer
	m.Counter = 1
	l = append(l, m)
	m = cookie
	m.Sender = 1
	l = append(l, m)
	m = cookie
	m.Counter = 1
	l = append(l, m)
	m = data
	m.Sender = 1
	l = append(l, m)
	for _, m := range l {
		b, e := wire.Print(m)
		if e != api.Form || len(b) != 0 || len(wire.Terms(m)) != 0 || wire.Body(m) != "" || wire.Signed(m) != "" {
			t.Errorf("Print(%.200v) = %d bytes, %d", m, len(b), e)
		}
	}
}

// fields puts a text into each field that is one.
func fields() []func(*api.Message, string) {
	return []func(*api.Message, string){
		func(m *api.Message, s string) { m.Eph = s }, func(m *api.Message, s string) { m.Static = s }, func(m *api.Message, s string) { m.Stamp = s },
		func(m *api.Message, s string) { m.Empty = s }, func(m *api.Message, s string) { m.Nonce = s }, func(m *api.Message, s string) { m.Cookie = s },
		func(m *api.Message, s string) { m.Data = s }, func(m *api.Message, s string) { m.Mac1 = s }, func(m *api.Message, s string) { m.Mac2 = s },
	}
}

// has tells whether that field isn't empty.
func has(m api.Message, f func(*api.Message, string)) bool {
	was := m
	f(&m, "")
	return m != was
}

// P6.1: a term has 65535 bytes at most.
func TestLongTerm(t *testing.T) {
	m := data
	m.Data = long(65535)
	b, e := wire.Print(m)
	if e != api.Fine || len(b) != 16+2+65535 || b[16] != 255 || b[17] != 255 {
		t.Error(len(b), e)
	}
	if got, e := wire.Read(b); e != api.Fine || got != m {
		t.Error("it isn't read", e)
	}
	m.Data = long(65536)
	if term.Kind(m.Data) == 0 {
		t.Fatal("that is no term")
	}
	if _, e = wire.Print(m); e != api.Form {
		t.Error("a longer one is taken", e)
	}
}

// P6.1: bytes that end in the midst, and such that don't end.
func TestReadShort(t *testing.T) {
	if _, e := wire.Read(nil); e != api.Short {
		t.Error(e)
	}
	for _, m := range messages() {
		b, _ := wire.Print(m)
		for i := range b {
			if got, e := wire.Read(b[:i]); e != api.Short || got != (api.Message{}) {
				t.Errorf("%d bytes of %v: %d", i, m, e)
			}
		}
		for _, more := range []string{"\x00", "x", string(b)} {
			if got, e := wire.Read(append(bytes.Clone(b), more...)); e != api.Long || got != (api.Message{}) {
				t.Errorf("%v with %q: %d", m, more, e)
			}
		}
	}
}

// P6.1: what is told is the first fault, from the first byte on.
func TestReadForm(t *testing.T) {
	head := "\x04\x00\x00\x00\x07\x00\x00\x00\x01\x00\x00\x00\x00\x00\x00\x00"
	for _, c := range []struct {
		b string
		e api.Code
	}{
		{"\x00", api.Form}, {"\x05", api.Form}, {"\xff\x00\x00\x00", api.Form}, {"\x00" + head[1:] + "\x01\x000", api.Form},
		{"\x04\x01", api.Form}, {"\x04\x00\x01", api.Form}, {"\x04\x00\x00\x01", api.Form}, {"\x04\x00\x00\xff" + head[4:] + "\x01\x000", api.Form}, {"\x04\x00", api.Short},
		{head + "\x00\x00", api.Form}, {head + "\x01\x00y", api.Form}, {head + "\x02\x0000", api.Form}, {head + "\x03\x00a01rest", api.Form}, {head + "\x01\x00yrest", api.Form},
		{head + "\x02\x00y", api.Short}, {head + "\x00\x010", api.Short}, {head + "\x01", api.Short}, {head + "\x01\x0000", api.Long},
		{"\x03\x00\x00\x00\x00\x00\x00\x00\x01\x00y\x01\x00", api.Form}, {"\x03\x00\x00\x00\x00\x00\x00\x00\x01\x000\x02\x00y", api.Short}, {"\x03\x00\x00\x00\x00\x00\x00\x00\x01\x00\xff\x01\x000", api.Form},
	} {
		if m, e := wire.Read([]byte(c.b)); e != c.e || m != (api.Message{}) {
			t.Errorf("Read(%q) = %v, %d", c.b, m, e)
		}
	}
}

// P6.2: terms, in the order of the row, and what is signed.
func TestTerms(t *testing.T) {
	for i, c := range []struct{ terms, body, signed string }{
		{"p(a1) s(0,a2,p(a3),0) n7 m(a4,a5) 0", "l(n1,n1000,n0,p(a1),s(0,a2,p(a3),0),n7)", "l(l(n1,n1000,n0,p(a1),s(0,a2,p(a3),0),n7),m(a4,a5))"},
		{"p(a6) 0 a7 x0102", "l(n2,n67305985,n4294901244,p(a6),0)", "l(l(n2,n67305985,n4294901244,p(a6),0),a7)"},
		{"n4 s(4,a1,a2,a3)", "", ""},
		{"0", "", ""},
	} {
		m := messages()[i]
		if got := strings.Join(wire.Terms(m), " "); got != c.terms {
			t.Errorf("the terms of %v are %q", m, got)
		}
		if got := wire.Body(m); got != c.body {
			t.Errorf("the body of %v is %q", m, got)
		}
		if got := wire.Signed(m); got != c.signed {
			t.Errorf("of %v is signed %q", m, got)
		}
	}
}

// P6.2: what were too long is the empty text.
func TestTooLong(t *testing.T) {
	m := start
	m.Eph, m.Static = long(40000), long(40000)
	if _, e := wire.Print(m); e != api.Fine {
		t.Error(e)
	}
	if wire.Body(m) != "" || wire.Signed(m) != "" || len(wire.Terms(m)) != 5 {
		t.Error("a body above MaxTerm")
	}
	m = start
	m.Mac1 = long(65500)
	if wire.Body(m) == "" || wire.Signed(m) != "" {
		t.Error("what is signed then is above MaxTerm")
	}
}

// P6.3: what is printed is read, and what is read is printed as it was.
func TestBack(t *testing.T) {
	terms := []string{"0", "a4294967295", "n18446744073709551615", "x", "x00ff", "p(p(a1))", "d(a1,a2)", "l()", long(300), long(70)}
	seed := uint64(3)
	next := func() uint64 {
		seed = seed*6364136223846793005 + 1442695040888963407
		return seed >> 20
	}
	for i := 0; i < 400; i++ {
		m := messages()[i%4]
		for _, f := range fields() {
			if has(m, f) {
				f(&m, terms[next()%uint64(len(terms))])
			}
		}
		if m.Kind <= api.Response {
			m.Sender = uint32(next())
		}
		if m.Kind >= api.Response {
			m.Receiver = uint32(next())
		}
		if m.Kind == api.Transport {
			m.Counter = next() << (i % 30)
		}
		b, e := wire.Print(m)
		if e != api.Fine {
			t.Fatal(m, e)
		}
		in := bytes.Clone(b)
		got, e := wire.Read(b)
		again, _ := wire.Print(got)
		if e != api.Fine || got != m || !bytes.Equal(again, b) || !bytes.Equal(in, b) {
			t.Fatal(m, got, e)
		}
		clear(b)
		if got != m {
			t.Fatal("a message shares the bytes that were handed in")
		}
	}
}
