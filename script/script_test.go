package script_test

import (
	"bytes"
	"math"
	"slices"
	"strings"
	"testing"

	"snicket/api"
	"snicket/script"
	"snicket/world"
)

// all has an act of each kind, and its line.
var all = []struct {
	line string
	a    world.Act
}{
	{"tun 0 1 07", world.Act{Kind: world.Tun, N: 1, Bytes: []byte{7}}},
	{"tun 3 255 -", world.Act{Kind: world.Tun, At: 3, N: 255}},
	{"tun 2147483647 2147483647 0aff", world.Act{Kind: world.Tun, At: math.MaxInt32, N: math.MaxInt32, Bytes: []byte{10, 255}}},
	{"deliver 0", world.Act{Kind: world.Deliver}},
	{"deliver 12", world.Act{Kind: world.Deliver, N: 12}},
	{"redirect 1 2 3", world.Act{Kind: world.Redirect, At: 1, N: 2, From: 3}},
	{"forge 1 3 00", world.Act{Kind: world.Forge, At: 1, From: 3, Bytes: []byte{0}}},
	{"forge 1 0 -", world.Act{Kind: world.Forge, At: 1}},
	{"wait 1000000", world.Act{Kind: world.Wait, N: 1000000}},
	{"move 1 2147483647", world.Act{Kind: world.Move, At: 1, From: math.MaxInt32}},
	{"reveal 5", world.Act{Kind: world.Reveal, At: 5}},
	{"load 1 on", world.Act{Kind: world.Load, At: 1, N: 1}},
	{"load 1 off", world.Act{Kind: world.Load, At: 1}},
}

func same(a, b world.Act) bool {
	return a.Kind == b.Kind && a.At == b.At && a.N == b.N && a.From == b.From && bytes.Equal(a.Bytes, b.Bytes)
}

// P20.1, P20.3: lines and acts, there and back.
func TestLines(t *testing.T) {
	for _, c := range all {
		if line, e := script.Print(c.a); line != c.line || e != api.Fine {
			t.Errorf("Print(%v) = %q, %d", c.a, line, e)
		}
		if a, e := script.Parse(c.line); !same(a, c.a) || e != api.Fine {
			t.Errorf("Parse(%q) = %v, %d", c.line, a, e)
		}
	}
}

// P20.1: acts that have no line; what a line doesn't name plays no part.
func TestPrint(t *testing.T) {
	for _, c := range []struct {
		a    world.Act
		line string
		e    api.Code
	}{
		{world.Act{}, "", api.Arg}, {world.Act{Kind: 9, At: -1}, "", api.Arg}, {world.Act{Kind: -1}, "", api.Arg}, {world.Act{Kind: math.MinInt}, "", api.Arg},
		{world.Act{Kind: world.Tun, At: -1}, "", api.Form}, {world.Act{Kind: world.Tun, N: -1}, "", api.Form}, {world.Act{Kind: world.Tun, N: 1 << 31}, "", api.Form}, {world.Act{Kind: world.Tun, At: 1 << 31}, "", api.Form}, {world.Act{Kind: world.Tun, From: -1}, "tun 0 0 -", api.Fine},
		{world.Act{Kind: world.Deliver, N: -1}, "", api.Form}, {world.Act{Kind: world.Deliver, At: -1, From: math.MaxInt, Bytes: []byte{1}}, "deliver 0", api.Fine}, {world.Act{Kind: world.Redirect, From: -1}, "", api.Form}, {world.Act{Kind: world.Redirect, N: math.MaxInt}, "", api.Form}, {world.Act{Kind: world.Redirect, At: -1}, "", api.Form},
		{world.Act{Kind: world.Forge, N: -1}, "forge 0 0 -", api.Fine}, {world.Act{Kind: world.Forge, From: -1}, "", api.Form}, {world.Act{Kind: world.Forge, At: 1 << 40}, "", api.Form}, {world.Act{Kind: world.Wait, At: -1, N: 0}, "wait 0", api.Fine}, {world.Act{Kind: world.Wait, N: -1}, "", api.Form},
		{world.Act{Kind: world.Move, N: -1, From: 1}, "move 0 1", api.Fine}, {world.Act{Kind: world.Move, From: math.MinInt}, "", api.Form}, {world.Act{Kind: world.Reveal, N: -1}, "reveal 0", api.Fine}, {world.Act{Kind: world.Reveal, At: -1}, "", api.Form},
		{world.Act{Kind: world.Load, N: -1}, "load 0 on", api.Fine}, {world.Act{Kind: world.Load, N: -2}, "load 0 off", api.Fine}, {world.Act{Kind: world.Load, N: math.MaxInt}, "load 0 on", api.Fine}, {world.Act{Kind: world.Load, N: math.MinInt}, "load 0 off", api.Fine}, {world.Act{Kind: world.Load, At: -1, N: 1}, "", api.Form},
	} {
		if line, e := script.Print(c.a); line != c.line || e != c.e {
			t.Errorf("Print(%v) = %q, %d", c.a, line, e)
		}
	}
}

// noLines are texts that are no line of an act.
var noLines = []string{
	"tun", "tun 0 1", "tun 0 1 07 8", "tun 0 1 ", "tun 0 1  07", " tun 0 1 07", "tun 0 1 07 ", "tun  0 1 07", "tun 0 1 7", "tun 0 1 0G", "tun 0 1 0A", "tun 0 1 --", "tun 0 1 -07", "tun 01 1 07", "tun -1 1 07", "tun 0 x 07", "tun 2147483648 1 07", "tun 0 18446744073709551616 07", "Tun 0 1 07", "tun\t0 1 07", "tun,0 1 07",
	"deliver", "deliver ", "deliver 00", "deliver 0 0", "deliver -", "deliver +1", "redirect 1 2", "redirect 1 2 3 4", "forge 1 3", "forge 1 00", "wait", "wait x", "wait 1.5", "move 1", "move 1 2 3", "reveal", "reveal 1 1", "load 1", "load 1 1", "load 1 On", "load on", "load 1 on off", "load 1 ", "loads 1 on", "deliver 0\n", "deliver \xff", "deliver \u0663", "\x00",
}

// P20.1: other texts.
func TestParse(t *testing.T) {
	for _, s := range append([]string{"", " ", "#", "# tun 0 1 07", "records", "now", "where 0", "0", "quit"}, noLines...) {
		if a, e := script.Parse(s); !same(a, world.Act{}) || e != api.Word {
			t.Errorf("Parse(%q) = %v, %d", s, a, e)
		}
	}
}

func of(t *testing.T, n int, shared string) *script.Console {
	t.Helper()
	c, e := script.New(n, shared)
	if e != api.Fine || c == nil {
		t.Fatal(n, e)
	}
	return c
}

// P20.2: consoles, and their worlds.
func TestNew(t *testing.T) {
	for _, x := range []struct {
		n      int
		shared string
		want   api.Code
	}{{2, "", api.Fine}, {8, "a9", api.Fine}, {1, "", api.Arg}, {9, "y", api.Arg}, {2, "y", api.Form}, {2, "x" + strings.Repeat("00", 101), api.Long}} {
		if c, e := script.New(x.n, x.shared); e != x.want || (c == nil) != (e != api.Fine) {
			t.Error(x, e)
		}
	}
	c := of(t, 3, "a9")
	if c.World() == nil || c.World() != c.World() || c.World().Len() != 3 || !c.World().Air().Knows("h(a9)") {
		t.Error("its world")
	}
}

// P20.2: what is told of each line.
func TestDo(t *testing.T) {
	c := of(t, 2, "")
	for i, x := range []struct {
		line string
		want []string
	}{
		{"", nil}, {" ", nil}, {"    ", nil}, {"#", nil}, {"#tun 0 1 07", nil}, {"# where", nil}, {" #", []string{"error 15"}}, {"\t", []string{"error 15"}},
		{"records", nil}, {"now", []string{"0"}}, {"where 0", []string{"1"}}, {"where 1", []string{"2"}}, {"where 2", []string{"0"}}, {"where 2147483647", []string{"0"}},
		{"where", []string{"error 15"}}, {"where ", []string{"error 15"}}, {"where 2147483648", []string{"error 15"}}, {"where -1", []string{"error 15"}}, {"where 01", []string{"error 15"}}, {"where 0 1", []string{"error 15"}}, {"where  0", []string{"error 15"}}, {" now", []string{"error 15"}}, {"now ", []string{"error 15"}}, {"records 1", []string{"error 15"}}, {"Records", []string{"error 15"}},
		{"tun 0 1 07", []string{"error 14"}}, {"deliver 0", []string{"ok"}}, {"deliver 9", []string{"error 6"}}, {"tun 0 7 07", []string{"error 11"}}, {"wait 0", []string{"error 2"}}, {"wait 12", []string{"ok"}}, {"now", []string{"12"}},
		{"deliver 1", []string{"ok"}}, {"wait 1", []string{"ok"}}, {"deliver 2", []string{"ok"}}, {"deliver 2", []string{"error 9"}}, {"move 1 77", []string{"ok"}}, {"where 1", []string{"77"}}, {"move 0 77", []string{"error 7"}}, {"move 0 0", []string{"error 2"}},
		{"records", []string{"taken 0 1 0 45000015000000000000000" + "00a0000010a01000107", "written 1 0 13 45000015000000000000000" + "00a0000010a01000107"}},
		{"forge 1 5 -", []string{"error 4"}}, {"load 1 on", []string{"ok"}}, {"reveal 0", []string{"ok"}}, {"redirect 1 0 5", []string{"error 13"}}, {"load 1 off", []string{"ok"}}, {"redirect 1 0 5", []string{"error 9"}},
	} {
		if got := c.Do(x.line); !slices.Equal(got, x.want) {
			t.Errorf("%d: %q: %q", i, x.line, got)
		}
	}
	if at, ok := c.World().Revealed(0); !ok || at != 13 {
		t.Error("nothing was revealed")
	}
	before := c.World().Air().Len()
	for _, s := range noLines {
		if got := c.Do(s); !slices.Equal(got, []string{"error 15"}) {
			t.Errorf("%q: %q", s, got)
		}
	}
	if c.World().Air().Len() != before || c.World().Now() != 13 {
		t.Error("lines that say nothing do something")
	}
}

// P20.2: lines, one after the other.
func TestRun(t *testing.T) {
	lines := []string{"tun 0 1 07", "# a remark", "deliver 0", "", "deliver 1", "deliver 2", "records", "now", "x"}
	c := of(t, 2, "")
	got := c.Run(lines)
	want := []string{"error 14", "ok", "ok", "ok", "taken 0 1 0 4500001500000000000000000a0000010a01000107", "written 1 0 0 4500001500000000000000000a0000010a01000107", "0", "error 15"}
	if !slices.Equal(got, want) {
		t.Errorf("%q", got)
	}
	d := of(t, 2, "")
	var one []string
	for _, s := range lines {
		one = append(one, d.Do(s)...)
	}
	if !slices.Equal(got, one) || len(c.Run(nil)) != 0 || lines[1] != "# a remark" {
		t.Errorf("%q", one)
	}
}

// T1: what is done by lines is what is done by acts.
func TestAlike(t *testing.T) {
	c := of(t, 8, "")
	w, _ := world.New(8, "")
	for i := range 3 {
		for _, x := range all {
			e := w.Do(x.a)
			want := "ok"
			if e != api.Fine {
				want = "error " + string("0123456789"[e/10]) + string("0123456789"[e%10])
				want = strings.Replace(want, "error 0", "error ", 1)
			}
			if got := c.Do(x.line); len(got) != 1 || got[0] != want {
				t.Errorf("%d: %q: %q, not %q", i, x.line, got, want)
			}
		}
	}
	if c.World().Now() != w.Now() || c.World().Air().Len() != w.Air().Len() || c.World().Air().Had() != w.Air().Had() || len(c.World().Records()) != len(w.Records()) {
		t.Error("both worlds aren't alike")
	}
}

// R4: what is handed in, or told, isn't kept.
func TestOwn(t *testing.T) {
	b := []byte{7}
	a := world.Act{Kind: world.Tun, N: 1, Bytes: b}
	script.Print(a)
	got, _ := script.Parse("tun 0 1 07")
	got.Bytes[0] = 9
	if again, _ := script.Parse("tun 0 1 07"); b[0] != 7 || again.Bytes[0] != 7 {
		t.Error("bytes are shared")
	}
}

// R1, P20.2: a nil console.
func TestNil(t *testing.T) {
	var c *script.Console
	if got := c.Run([]string{"now", "", "# x", "y"}); !slices.Equal(got, []string{"error 1", "error 1", "error 1", "error 1"}) || !slices.Equal(c.Do("#"), []string{"error 1"}) || c.World() != nil || len(c.Run(nil)) != 0 {
		t.Errorf("%q", got)
	}
}
