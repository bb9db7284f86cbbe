package addr_test

import (
	"bytes"
	"math"
	"strings"
	"testing"

	"snicket/addr"
	"snicket/api"
)

func of(bits int, a ...byte) api.Prefix {
	return api.Prefix{Addr: a, Bits: bits}
}

// six is an address of 16 bytes that begins so.
func six(a ...byte) []byte {
	return append(a, make([]byte, 16-len(a))...)
}

// P4.1: which prefixes are right.
func TestRight(t *testing.T) {
	for i, c := range []struct {
		p    api.Prefix
		want bool
	}{
		{of(0, 1, 2, 3, 4), true}, {of(32, 1, 2, 3, 4), true}, {of(33, 1, 2, 3, 4), false}, {of(-1, 1, 2, 3, 4), false},
		{of(math.MaxInt, 1, 2, 3, 4), false}, {of(math.MinInt, 1, 2, 3, 4), false},
		{of(0), false}, {of(0, 1, 2, 3), false}, {of(0, 1, 2, 3, 4, 5), false},
		{of(0, six()...), true}, {of(128, six()...), true}, {of(129, six()...), false}, {of(0, make([]byte, 15)...), false}, {of(0, make([]byte, 17)...), false},
	} {
		if addr.Right(c.p) != c.want {
			t.Errorf("%d isn't %v", i, c.want)
		}
	}
}

// P4.1: the plain prefix with the same addresses.
func TestPlain(t *testing.T) {
	for i, c := range []struct {
		p, want api.Prefix
		e       api.Code
	}{
		{of(24, 10, 0, 0, 7), of(24, 10, 0, 0, 0), api.Fine},
		{of(32, 10, 0, 0, 7), of(32, 10, 0, 0, 7), api.Fine},
		{of(31, 10, 0, 0, 7), of(31, 10, 0, 0, 6), api.Fine},
		{of(0, 255, 255, 255, 255), of(0, 0, 0, 0, 0), api.Fine},
		{of(1, 255, 255, 255, 255), of(1, 128, 0, 0, 0), api.Fine},
		{of(11, 255, 255, 255, 255), of(11, 255, 224, 0, 0), api.Fine},
		{of(65, six(1, 2, 3, 4, 5, 6, 7, 8, 255, 1)...), of(65, six(1, 2, 3, 4, 5, 6, 7, 8, 128)...), api.Fine},
		{of(33, 10, 0, 0, 7), api.Prefix{}, api.Form}, {of(-1, 10, 0, 0, 7), api.Prefix{}, api.Form}, {of(0, 10), api.Prefix{}, api.Form}, {api.Prefix{}, api.Prefix{}, api.Form},
	} {
		q, e := addr.Plain(c.p)
		if e != c.e || q.Bits != c.want.Bits || !bytes.Equal(q.Addr, c.want.Addr) {
			t.Errorf("%d: %v, %d", i, q, e)
		}
	}
	p := of(32, 1, 2, 3, 4)
	q, _ := addr.Plain(p)
	q.Addr[0] = 9
	if p.Addr[0] != 1 {
		t.Error("what was told is shared with what was handed in")
	}
	p = of(8, 1, 2, 3, 4)
	if addr.Plain(p); p.Addr[3] != 4 {
		t.Error("what was handed in was changed")
	}
}

// P4.1: which addresses a prefix has, bit by bit.
func TestHas(t *testing.T) {
	for _, size := range []int{4, 16} {
		a := make([]byte, size)
		for i := range a {
			a[i] = byte(0xa5 + 17*i)
		}
		for bits := 0; bits <= 8*size; bits++ {
			for other := 0; other < 8*size; other++ {
				b := bytes.Clone(a)
				b[other/8] ^= 128 >> (other % 8)
				if got := addr.Has(api.Prefix{Addr: a, Bits: bits}, b); got != (other >= bits) {
					t.Fatalf("the bit %d with %d bits: %v", other, bits, got)
				}
			}
			if !addr.Has(api.Prefix{Addr: a, Bits: bits}, a) {
				t.Fatalf("%d bits haven't their own address", bits)
			}
		}
	}
	if addr.Has(of(0, 0, 0, 0, 0), six()) || addr.Has(of(0, six()...), []byte{0, 0, 0, 0}) || addr.Has(of(0, 0, 0, 0, 0), nil) || addr.Has(of(0, 0, 0, 0, 0), []byte{0, 0, 0}) {
		t.Error("a prefix has an address of another size")
	}
	if addr.Has(of(-1, 0, 0, 0, 0), []byte{0, 0, 0, 0}) || addr.Has(of(33, 0, 0, 0, 0), []byte{0, 0, 0, 0}) || addr.Has(of(0, 0), []byte{0}) || addr.Has(of(0), nil) {
		t.Error("a prefix that isn't right has an address")
	}
}

// P4.1: which prefixes have all that others have.
func TestWithin(t *testing.T) {
	for i, c := range []struct {
		p, q api.Prefix
		want bool
	}{
		{of(24, 10, 0, 1, 0), of(16, 10, 0, 0, 0), true}, {of(16, 10, 0, 0, 0), of(24, 10, 0, 1, 0), false}, {of(24, 10, 0, 1, 0), of(24, 10, 0, 1, 9), true},
		{of(24, 10, 1, 1, 0), of(16, 10, 0, 0, 0), false}, {of(16, 10, 0, 1, 1), of(16, 10, 0, 2, 2), true}, {of(0, 1, 1, 1, 1), of(0, 2, 2, 2, 2), true},
		{of(32, 1, 1, 1, 1), of(0, 2, 2, 2, 2), true}, {of(0, 0, 0, 0, 0), of(1, 0, 0, 0, 0), false}, {of(0, six()...), of(0, 0, 0, 0, 0), false}, {of(0, 0, 0, 0, 0), of(0, six()...), false},
		{of(-1, 0, 0, 0, 0), of(0, 0, 0, 0, 0), false}, {of(33, 0, 0, 0, 0), of(0, 0, 0, 0, 0), false}, {of(8, 0, 0, 0, 0), of(-1, 0, 0, 0, 0), false}, {of(32, 0, 0, 0, 0), of(33, 0, 0, 0, 0), false}, {of(0), of(0), false},
		{of(64, six(1, 2)...), of(16, six(1, 2, 3)...), true},
	} {
		if addr.Within(c.p, c.q) != c.want {
			t.Errorf("%d isn't %v", i, c.want)
		}
	}
}

// P4.2: addresses and their texts.
func TestPrint(t *testing.T) {
	for _, c := range []struct {
		a []byte
		s string
	}{
		{[]byte{10, 0, 0, 7}, "10.0.0.7"}, {[]byte{0, 0, 0, 0}, "0.0.0.0"}, {[]byte{255, 100, 99, 1}, "255.100.99.1"},
		{six(), "0000:0000:0000:0000:0000:0000:0000:0000"}, {six(0x20, 0x01, 0x0d, 0xb8, 0, 0xff), "2001:0db8:00ff:0000:0000:0000:0000:0000"},
	} {
		if s, e := addr.Print(c.a); s != c.s || e != api.Fine {
			t.Errorf("Print(%v) = %q, %d", c.a, s, e)
		}
		if a, e := addr.Read(c.s); !bytes.Equal(a, c.a) || e != api.Fine {
			t.Errorf("Read(%q) = %v, %d", c.s, a, e)
		}
	}
	for _, n := range []int{0, 1, 3, 5, 8, 15, 17} {
		if s, e := addr.Print(make([]byte, n)); s != "" || e != api.Form {
			t.Errorf("%d bytes are printed: %q, %d", n, s, e)
		}
	}
}

// P4.2: texts that are no address.
func TestReadNone(t *testing.T) {
	for _, s := range []string{
		"", "1", "1.2.3", "1.2.3.4.5", "1.2.3.", ".1.2.3", "1..2.3", "1.2.3.256", "01.2.3.4", "1.2.3.4 ", " 1.2.3.4", "1.2.3.-4", "1.2.3.a", "1,2,3,4", "1.2.3.99999999999999999999", "1.2.3.4/8",
		"0:0:0:0:0:0:0:0", "0000:0000:0000:0000:0000:0000:0000", "0000:0000:0000:0000:0000:0000:0000:0000:0000", "0000:0000:0000:0000:0000:0000:0000:000", "0000:0000:0000:0000:0000:0000:0000:00000",
		"0000:0000:0000:0000:0000:0000:0000:000G", "0000:0000:0000:0000:0000:0000:0000:00AB", "000000:00:0000:0000:0000:0000:0000:0000", "::", "0000.0000.0000.0000.0000.0000.0000.0000", "\xff.1.1.1",
		"0000:0000:0000:0000:0000:0000:0000:", strings.Repeat("1.", 1000), strings.Repeat("0000:", 1000),
	} {
		if a, e := addr.Read(s); len(a) != 0 || e != api.Form {
			t.Errorf("Read(%q) = %v, %d", s, a, e)
		}
	}
}

// P4.2: plain prefixes and their texts.
func TestPrintPrefix(t *testing.T) {
	for _, c := range []struct {
		p api.Prefix
		s string
	}{
		{of(24, 10, 0, 0, 0), "10.0.0.0/24"}, {of(0, 0, 0, 0, 0), "0.0.0.0/0"}, {of(32, 1, 2, 3, 4), "1.2.3.4/32"}, {of(9, 10, 128, 0, 0), "10.128.0.0/9"},
		{of(128, six(1)...), "0100:0000:0000:0000:0000:0000:0000:0000/128"}, {of(0, six()...), "0000:0000:0000:0000:0000:0000:0000:0000/0"},
	} {
		if s, e := addr.PrintPrefix(c.p); s != c.s || e != api.Fine {
			t.Errorf("PrintPrefix(%v) = %q, %d", c.p, s, e)
		}
		if p, e := addr.ReadPrefix(c.s); !bytes.Equal(p.Addr, c.p.Addr) || p.Bits != c.p.Bits || e != api.Fine {
			t.Errorf("ReadPrefix(%q) = %v, %d", c.s, p, e)
		}
	}
	for _, p := range []api.Prefix{{}, of(24, 10, 0, 0, 7), of(8, 10, 128, 0, 0), of(0, 1, 0, 0, 0), of(33, 1, 2, 3, 4), of(-1, 0, 0, 0, 0), of(8, 10, 0, 0), of(127, append(six()[:15], 1)...)} {
		if s, e := addr.PrintPrefix(p); s != "" || e != api.Form {
			t.Errorf("PrintPrefix(%v) = %q, %d", p, s, e)
		}
	}
	for _, s := range []string{
		"", "/", "10.0.0.0", "10.0.0.0/", "/24", "10.0.0.0/24/", "10.0.0.0/24/24", "10.0.0.0/024", "10.0.0.0/33", "10.0.0.0/-1", "10.0.0.7/24", "10.0.0/24", "10.0.0.0/24 ", "10.0.0.0 /24",
		"1.0.0.0/0", "10.0.0.0/18446744073709551615", "10.0.0.0/18446744073709551640", "10.0.0.0/x", "0000:0000:0000:0000:0000:0000:0000:0000/129", "0000:0000:0000:0000:0000:0000:0000:0001/127", "10.0.0.0//24", "0.0.0.0", "0.0.0.0/", "0.0.0.0/x", "0.0.0.0/00", "0.0.0.0/18446744073709551616",
	} {
		if p, e := addr.ReadPrefix(s); len(p.Addr) != 0 || p.Bits != 0 || e != api.Form {
			t.Errorf("ReadPrefix(%q) = %v, %d", s, p, e)
		}
	}
}

// P4.3: what is printed is read, and what is read is printed as it was.
func TestBack(t *testing.T) {
	seed := uint32(7)
	for i := 0; i < 400; i++ {
		a := make([]byte, 4+12*(i%2))
		for j := range a {
			seed = seed*1664525 + 1013904223
			a[j] = byte(seed >> 24)
		}
		s, _ := addr.Print(a)
		b, e := addr.Read(s)
		if again, _ := addr.Print(b); e != api.Fine || !bytes.Equal(a, b) || again != s {
			t.Fatalf("%v comes back as %v, %d", a, b, e)
		}
		p, _ := addr.Plain(api.Prefix{Addr: a, Bits: i % (8*len(a) + 1)})
		s, _ = addr.PrintPrefix(p)
		q, e := addr.ReadPrefix(s)
		if e != api.Fine || !bytes.Equal(p.Addr, q.Addr) || p.Bits != q.Bits {
			t.Fatalf("%v comes back as %v, %d", p, q, e)
		}
	}
}
