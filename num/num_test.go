package num_test

import (
	"math"
	"strconv"
	"strings"
	"testing"

	"snicket/api"
	"snicket/num"
)

// P1.1: a number's text, with the ends of the numbers.
func TestPrint(t *testing.T) {
	for _, u := range []uint64{0, 1, 9, 10, 11, 99, 100, 101, 1<<32 - 1, 1 << 32, 1<<63 - 1, 1 << 63, math.MaxUint64 - 1, math.MaxUint64} {
		if got, want := num.Print(u), strconv.FormatUint(u, 10); got != want {
			t.Errorf("Print(%d) = %q", u, got)
		}
	}
}

// P1.1: numbers that are read, and texts that are none.
func TestRead(t *testing.T) {
	for _, c := range []struct {
		s string
		u uint64
		e api.Code
	}{
		{"0", 0, api.Fine},
		{"7", 7, api.Fine},
		{"10", 10, api.Fine},
		{"9000000001", 9000000001, api.Fine},
		{"18446744073709551609", math.MaxUint64 - 6, api.Fine},
		{"18446744073709551615", math.MaxUint64, api.Fine},
		{"18446744073709551616", 0, api.Long},
		{"18446744073709551620", 0, api.Long},
		{"20000000000000000000", 0, api.Long},
		{"99999999999999999999", 0, api.Long},
		{"100000000000000000000", 0, api.Long},
		{strings.Repeat("9", 1000), 0, api.Long},
		{"", 0, api.Form},
		{"00", 0, api.Form},
		{"01", 0, api.Form},
		{"0x1", 0, api.Form},
		{"+1", 0, api.Form},
		{"-1", 0, api.Form},
		{" 1", 0, api.Form},
		{"1 ", 0, api.Form},
		{"1\n", 0, api.Form},
		{"1_0", 0, api.Form},
		{"/", 0, api.Form},
		{":", 0, api.Form},
		{"a", 0, api.Form},
		{"\x00", 0, api.Form},
		{"1\xff", 0, api.Form},
		{"\u0663", 0, api.Form},
		{"1\uff11", 0, api.Form},
		{"99999999999999999999x", 0, api.Form},
		{"018446744073709551616", 0, api.Form},
	} {
		if u, e := num.Read(c.s); u != c.u || e != c.e {
			t.Errorf("Read(%q) = %d, %d", c.s, u, e)
		}
	}
}

// P1.2: two signs for each byte, the higher one first.
func TestHex(t *testing.T) {
	for _, c := range []struct {
		b []byte
		s string
	}{{nil, ""}, {[]byte{}, ""}, {[]byte{0}, "00"}, {[]byte{10, 255}, "0aff"}, {[]byte{0x12, 0x9f, 0xa0}, "129fa0"}} {
		if got := num.Hex(c.b); got != c.s {
			t.Errorf("Hex(%v) = %q", c.b, got)
		}
	}
}

// P1.2: bytes that are read; another sign is told ahead of a sign too few.
func TestReadHex(t *testing.T) {
	for _, c := range []struct {
		s string
		b string
		e api.Code
	}{
		{"", "", api.Fine},
		{"0aff", "\x0a\xff", api.Fine},
		{"99a0", "\x99\xa0", api.Fine},
		{"0", "", api.Short},
		{"0af", "", api.Short},
		{"g", "", api.Form},
		{"0g", "", api.Form},
		{"0g0", "", api.Form},
		{"00`0", "", api.Form},
		{"00/0", "", api.Form},
		{"00:0", "", api.Form},
		{"0A", "", api.Form},
		{"FF", "", api.Form},
		{"0 ", "", api.Form},
		{"\xff\xff", "", api.Form},
		{"\u0663", "", api.Form},
		{"0x", "", api.Form},
	} {
		b, e := num.ReadHex(c.s)
		if string(b) != c.b || e != c.e || e != api.Fine && len(b) != 0 {
			t.Errorf("ReadHex(%q) = %v, %d", c.s, b, e)
		}
	}
}

// P1.3: what is printed is read, and what is read is printed as it was.
func TestBack(t *testing.T) {
	u := uint64(1)
	for i := 0; i < 500; i++ {
		if v, e := num.Read(num.Print(u)); v != u || e != api.Fine {
			t.Errorf("%d is read as %d, %d", u, v, e)
		}
		u = u*6364136223846793005 + 1442695040888963407
		u >>= uint(i % 60)
	}
	all := make([]byte, 256)
	for i := range all {
		all[i] = byte(i)
		b, e := num.ReadHex(num.Hex(all[:i+1]))
		if e != api.Fine || string(b) != string(all[:i+1]) {
			t.Errorf("%d bytes come back as %v, %d", i+1, b, e)
		}
	}
	if s := "00ff10a9"; num.Hex([]byte{0, 255, 16, 169}) != s {
		t.Error("bytes aren't printed as they were read")
	}
}

// R4: what is told is the caller's.
func TestOwn(t *testing.T) {
	b, _ := num.ReadHex("0102")
	c, _ := num.ReadHex("0102")
	b[0] = 9
	if c[0] != 1 {
		t.Error("two answers share bytes")
	}
	in := []byte{1, 2, 3}
	if num.Hex(in); string(in) != "\x01\x02\x03" {
		t.Error("what was handed in was changed")
	}
}
