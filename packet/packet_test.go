package packet_test

import (
	"bytes"
	"math"
	"strconv"
	"testing"

	"snicket/api"
	"snicket/packet"
)

// four is a packet of version 4 with a beginning of so many fours, that tells that
// length, in so many bytes.
func four(fours, length, size int) []byte {
	b := make([]byte, size)
	for i := range b {
		b[i] = byte(i)
	}
	b[0], b[2], b[3] = byte(64+fours), byte(length>>8), byte(length)
	return b
}

// six is one of version 6 that tells that so many bytes follow.
func six(first byte, follow, size int) []byte {
	b := make([]byte, size)
	for i := range b {
		b[i] = byte(i)
	}
	b[0], b[4], b[5] = first, byte(follow>>8), byte(follow)
	return b
}

func row(from, to int) []byte {
	var b []byte
	for i := from; i < to; i++ {
		b = append(b, byte(i))
	}
	return b
}

// P5.1: what is read of packets that are right.
func TestRead(t *testing.T) {
	for i, c := range []struct {
		b            []byte
		version, len int
		start        int
	}{
		{four(5, 20, 20), 4, 20, 20}, {four(5, 20, 33), 4, 20, 20}, {four(5, 21, 21), 4, 21, 20}, {four(6, 24, 24), 4, 24, 24}, {four(15, 60, 60), 4, 60, 60},
		{four(15, 61, 80), 4, 61, 60}, {four(5, 300, 300), 4, 300, 20}, {four(5, 65535, 65535), 4, 65535, 20}, {four(5, 258, 300), 4, 258, 20},
		{six(96, 0, 40), 6, 40, 40}, {six(111, 0, 41), 6, 40, 40}, {six(100, 3, 43), 6, 43, 40}, {six(96, 258, 400), 6, 298, 40}, {six(96, 65535, 65575), 6, 65575, 40},
	} {
		h, e := packet.Read(c.b)
		src, dst := row(12, 16), row(16, 20)
		if c.version == 6 {
			src, dst = row(8, 24), row(24, 40)
		}
		if e != api.Fine || h.Version != c.version || h.Len != c.len || !bytes.Equal(h.Src, src) || !bytes.Equal(h.Dst, dst) {
			t.Errorf("%d: %v, %d", i, h, e)
		}
		if b, e := packet.Trim(c.b); e != api.Fine || !bytes.Equal(b, c.b[:c.len]) {
			t.Errorf("%d: trimmed to %d, %d", i, len(b), e)
		}
		if b, e := packet.Data(c.b); e != api.Fine || !bytes.Equal(b, c.b[c.start:c.len]) {
			t.Errorf("%d: data of %d, %d", i, len(b), e)
		}
	}
}

// P5.1: what is no packet, in the order of the errors.
func TestReadNone(t *testing.T) {
	for i, c := range []struct {
		b []byte
		e api.Code
	}{
		{nil, api.Short}, {[]byte{}, api.Short},
		{[]byte{0}, api.Form}, {[]byte{63}, api.Form}, {[]byte{80}, api.Form}, {[]byte{95}, api.Form}, {[]byte{112}, api.Form}, {[]byte{255}, api.Form}, {make([]byte, 50), api.Form},
		{[]byte{69}, api.Short}, {[]byte{64}, api.Short}, {four(5, 20, 19), api.Short}, {four(4, 20, 19), api.Short}, {[]byte{96}, api.Short}, {six(96, 0, 39), api.Short}, {six(96, 0, 20), api.Short},
		{four(4, 20, 20), api.Form}, {four(0, 20, 20), api.Form}, {four(5, 19, 20), api.Form}, {four(5, 0, 20), api.Form}, {four(6, 23, 24), api.Form}, {four(15, 59, 60), api.Form}, {four(15, 20, 20), api.Form}, {four(4, 99, 20), api.Form},
		{four(6, 24, 20), api.Short}, {four(5, 21, 20), api.Short}, {four(15, 60, 59), api.Short}, {four(5, 65535, 65534), api.Short},
		{six(96, 1, 40), api.Short}, {six(111, 65535, 65574), api.Short},
	} {
		h, e := packet.Read(c.b)
		if e != c.e || h.Version != 0 || h.Len != 0 || h.Src != nil || h.Dst != nil {
			t.Errorf("%d: %v, %d", i, h, e)
		}
		if b, e := packet.Trim(c.b); e != c.e || len(b) != 0 {
			t.Errorf("%d: trimmed, %d", i, e)
		}
		if b, e := packet.Data(c.b); e != c.e || len(b) != 0 {
			t.Errorf("%d: data, %d", i, e)
		}
	}
}

// P5.2: what is made, byte by byte.
func TestMake(t *testing.T) {
	b, e := packet.Make([]byte{10, 0, 0, 1}, []byte{10, 0, 0, 2}, []byte{7})
	if want := []byte{69, 0, 0, 21, 0, 0, 0, 0, 0, 0, 0, 0, 10, 0, 0, 1, 10, 0, 0, 2, 7}; e != api.Fine || !bytes.Equal(b, want) {
		t.Error(b, e)
	}
	b, e = packet.Make(row(1, 17), row(17, 33), row(0, 255))
	if want := append(append([]byte{96, 0, 0, 0, 0, 255, 0, 0}, row(1, 33)...), row(0, 255)...); e != api.Fine || !bytes.Equal(b, want) {
		t.Error(b, e)
	}
	if b, e = packet.Make(row(0, 4), row(0, 4), nil); e != api.Fine || len(b) != 20 {
		t.Error(b, e)
	}
}

// P5.2: addresses of unlike sizes, or of none, and too much data.
func TestMakeNone(t *testing.T) {
	for _, c := range []struct {
		src, dst, data int
		e              api.Code
	}{
		{4, 4, 1980, api.Fine}, {4, 4, 1981, api.Long}, {16, 16, 1960, api.Fine}, {16, 16, 1961, api.Long}, {4, 4, 70000, api.Long},
		{4, 16, 0, api.Form}, {16, 4, 0, api.Form}, {0, 0, 0, api.Form}, {0, 4, 0, api.Form}, {5, 5, 0, api.Form}, {8, 8, 5000, api.Form}, {4, 3, 1981, api.Form},
	} {
		b, e := packet.Make(make([]byte, c.src), make([]byte, c.dst), make([]byte, c.data))
		if e != c.e || e != api.Fine && len(b) != 0 || e == api.Fine && len(b) != api.MaxPacket {
			t.Error(c, len(b), e)
		}
	}
}

// P5.2: noughts up to the next multiple.
func TestPad(t *testing.T) {
	for _, c := range []struct{ size, n, want int }{
		{0, 16, 0}, {1, 16, 16}, {15, 16, 16}, {16, 16, 16}, {17, 16, 32}, {1999, 16, 2000}, {2000, 16, 2000}, {5, 1, 5}, {5, 7, 7}, {7, 5, 10},
		{5, 0, 5}, {5, -1, 5}, {5, -7, 5}, {0, 0, 0}, {5, math.MinInt, 5}, {0, math.MaxInt, 0}, {3, 1 << 16, 1 << 16},
	} {
		in := row(1, 1+c.size)
		b := packet.Pad(in, c.n)
		if len(b) != c.want || !bytes.Equal(b[:c.size], in) || bytes.Count(b[c.size:], []byte{0}) != c.want-c.size {
			t.Errorf("%d up to a multiple of %d: %d", c.size, c.n, len(b))
		}
	}
	packet.Pad([]byte{1}, math.MaxInt) // nothing is promised, but that it ends
}

// R4: what is told is the caller's.
func TestOwn(t *testing.T) {
	in := four(5, 25, 30)
	was := bytes.Clone(in)
	h, _ := packet.Read(in)
	trimmed, _ := packet.Trim(in)
	data, _ := packet.Data(in)
	for _, b := range [][]byte{h.Src, h.Dst, trimmed, data, packet.Pad(in, 30), packet.Pad(in, 0), append(h.Src, 99)} {
		for i := range b {
			b[i] = 255
		}
	}
	if !bytes.Equal(in, was) {
		t.Error("what was handed in was changed")
	}
	h, _ = packet.Read(in)
	h.Src = append(h.Src, 0)
	if !bytes.Equal(h.Dst, row(16, 20)) {
		t.Error("two addresses share bytes")
	}
	data = []byte{1, 2}
	made, _ := packet.Make(row(0, 4), row(4, 8), data)
	made[20], made[12] = 9, 9
	if data[0] != 1 {
		t.Error("the data is shared")
	}
	room := append(make([]byte, 0, 32), 1, 2, 3)
	packet.Pad(room, 16)[3] = 7
	if room[:4][3] != 0 {
		t.Error("what stands behind was changed")
	}
}

// P5.3: what is made is read; filling changes nothing.
func TestBack(t *testing.T) {
	for size := 0; size < 300; size += 7 {
		for _, n := range []int{4, 16} {
			src, dst, data := row(size, size+n), row(size+50, size+50+n), row(0, size)
			b, _ := packet.Make(src, dst, data)
			for _, filled := range [][]byte{b, packet.Pad(b, 16), append(bytes.Clone(b), row(0, size)...)} {
				h, e := packet.Read(filled)
				back, _ := packet.Data(filled)
				trimmed, _ := packet.Trim(filled)
				if e != api.Fine || !bytes.Equal(h.Src, src) || !bytes.Equal(h.Dst, dst) || h.Len != len(b) || !bytes.Equal(back, data) || !bytes.Equal(trimmed, b) {
					t.Fatal(strconv.Itoa(size), h, e)
				}
			}
		}
	}
}
