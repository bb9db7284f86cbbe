package settle_test

import (
	"math"
	"testing"

	"snicket/api"
	"snicket/books"
	"snicket/settle"
	"snicket/world"
)

func of(t *testing.T, n int) *world.World {
	t.Helper()
	w, e := world.New(n, "")
	if e != api.Fine {
		t.Fatal(e)
	}
	return w
}

func tun(w *world.World, at, n int, data ...byte) {
	w.Do(world.Act{Kind: world.Tun, At: at, N: n, Bytes: data})
}

func is(t *testing.T, got int, e api.Code, want int, code api.Code) {
	t.Helper()
	if got != want || e != code {
		t.Errorf("%d, %d, not %d, %d", got, e, want, code)
	}
}

// P23.1: a round delivers what comes, up to the most, and waits.
func TestRound(t *testing.T) {
	w := of(t, 2)
	n, e := settle.Round(w, 1)
	is(t, n, e, 0, api.Fine)
	tun(w, 0, 1, 7)
	n, e = settle.Round(w, 10000)
	is(t, n, e, 3, api.Fine)
	if w.Now() != 500 || len(books.Strange(w.Records()))+len(books.Lost(w.Records())) != 0 || len(w.Records()) != 2 {
		t.Error("it isn't written", w.Now())
	}
	w = of(t, 2)
	tun(w, 0, 1, 7)
	for i, want := range []int{1, 1, 1, 0} {
		n, e = settle.Round(w, 1)
		if is(t, n, e, want, api.Fine); w.Now() != int64(250*(i+1)) {
			t.Error(w.Now())
		}
	}
	w = of(t, 2)
	tun(w, 0, 1, 7)
	n, e = settle.Round(w, 2)
	is(t, n, e, 2, api.Fine)
	n, e = settle.Round(w, 2)
	is(t, n, e, 1, api.Fine)
}

// P23.1: the least number goes first, whoever it is for.
func TestOrder(t *testing.T) {
	w := of(t, 3)
	tun(w, 0, 2, 1) // datagram 0 to 3
	tun(w, 0, 1, 2) // datagram 1 to 2
	tun(w, 1, 2, 3) // datagram 2 to 3
	w.Do(world.Act{Kind: world.Deliver, N: 1})
	settle.Round(w, 2)
	for i, want := range []int{1, 1, 1, 0, 0, 0} {
		if d, _ := w.Air().At(i); d.Delivered != want {
			t.Error(i, "was delivered", d.Delivered)
		}
	}
	if d, _ := w.Air().At(4); d.From != 3 || d.To != 1 {
		t.Error("another one came first", d)
	}
	w.Do(world.Act{Kind: world.Move, At: 0, From: 50}) // 3 and 4 aren't deliverable any more
	n, e := settle.Round(w, 100)
	is(t, n, e, 2, api.Fine)
	w.Do(world.Act{Kind: world.Move, At: 0, From: 1})
	n, e = settle.Round(w, 100)
	is(t, n, e, 4, api.Fine)
	if !settle.Quiet(w) || len(books.Lost(w.Records())) != 0 {
		t.Error("something is lost")
	}
}

// P23.1: what is wrong, in the order of the errors.
func TestWrong(t *testing.T) {
	w := of(t, 2)
	tun(w, 0, 1, 7)
	for _, most := range []int{0, -1, 10001, math.MaxInt, math.MinInt} {
		n, e := settle.Round(w, most)
		is(t, n, e, 0, api.Arg)
		n, e = settle.Rounds(w, 1, most)
		is(t, n, e, 0, api.Arg)
		n, e = settle.Until(w, 1, most)
		is(t, n, e, 0, api.Arg)
		n, e = settle.Round(nil, most)
		is(t, n, e, 0, api.Nil)
	}
	for _, rounds := range []int{-1, 1001, math.MaxInt, math.MinInt} {
		n, e := settle.Rounds(w, rounds, 1)
		is(t, n, e, 0, api.Arg)
		n, e = settle.Until(w, rounds, 1)
		is(t, n, e, 0, api.Arg)
		n, e = settle.Rounds(nil, rounds, 1)
		is(t, n, e, 0, api.Nil)
		n, e = settle.Until(nil, rounds, 1)
		is(t, n, e, 0, api.Nil)
	}
	if d, _ := w.Air().At(0); d.Delivered != 0 || w.Now() != 0 {
		t.Error("what was refused changed something")
	}
	n, e := settle.Until(of(t, 2), -1, 1)
	is(t, n, e, 0, api.Arg)
	if !settle.Quiet(nil) || settle.Staged(nil) != 0 {
		t.Error("no world isn't quiet")
	}
}

// P23.1: many rounds.
func TestRounds(t *testing.T) {
	w := of(t, 2)
	tun(w, 0, 1, 7)
	n, e := settle.Rounds(w, 0, 1)
	if is(t, n, e, 0, api.Fine); w.Now() != 0 {
		t.Error("no rounds wait")
	}
	n, e = settle.Rounds(w, 2, 1)
	if is(t, n, e, 2, api.Fine); w.Now() != 500 {
		t.Error(w.Now())
	}
	n, e = settle.Rounds(w, 1000, 10)
	if is(t, n, e, 1+1, api.Fine); w.Now() != 250500 { // the packet, and an empty one
		t.Error(w.Now())
	}
}

// P23.1: rounds till it is quiet.
func TestUntil(t *testing.T) {
	w := of(t, 2)
	n, e := settle.Until(w, 5, 1)
	is(t, n, e, 0, api.Fine)
	n, e = settle.Until(w, 0, 1)
	is(t, n, e, 0, api.Fine)
	tun(w, 0, 1, 7)
	n, e = settle.Until(w, 0, 1)
	if is(t, n, e, 0, api.Wait); w.Now() != 0 {
		t.Error("no rounds wait")
	}
	n, e = settle.Until(w, 2, 1)
	is(t, n, e, 2, api.Wait)
	n, e = settle.Until(w, 9, 1)
	if is(t, n, e, 1, api.Fine); w.Now() != 750 {
		t.Error(w.Now())
	}
	w = of(t, 2)
	w.Do(world.Act{Kind: world.Move, At: 1, From: 9})
	tun(w, 0, 1, 7) // nobody is there: not deliverable, but staged till it is given up
	n, e = settle.Until(w, 100, 10)
	is(t, n, e, 100, api.Wait)
	n, e = settle.Until(w, 1000, 10)
	if is(t, n, e, 260, api.Fine); w.Now() != 90000 {
		t.Error(w.Now())
	}
}

// P23.2: what is quiet, and what is staged.
func TestQuiet(t *testing.T) {
	w := of(t, 3)
	if !settle.Quiet(w) || settle.Staged(w) != 0 {
		t.Error("a new world isn't quiet")
	}
	tun(w, 0, 1, 1)
	tun(w, 0, 2, 1)
	tun(w, 2, 0, 1)
	tun(w, 2, 0, 2)
	if settle.Quiet(w) || settle.Staged(w) != 4 {
		t.Error("staged are", settle.Staged(w))
	}
	for i := range w.Air().Len() {
		if d, _ := w.Air().At(i); d.Delivered == 0 {
			w.Do(world.Act{Kind: world.Redirect, N: i, At: 1, From: 77})
		}
	}
	w.Do(world.Act{Kind: world.Move, At: 1, From: 99})
	if len(w.Air().Waiting(1))+len(w.Air().Waiting(3)) != 0 || settle.Quiet(w) {
		t.Error("packets are staged, and it is quiet")
	}
	settle.Rounds(w, 400, 100) // what goes on is given up
	w.Do(world.Act{Kind: world.Wait, N: 100000})
	if settle.Staged(w) != 0 {
		t.Error("staged are", settle.Staged(w))
	}
	w = of(t, 2)
	tun(w, 0, 1, 1)
	w.Do(world.Act{Kind: world.Deliver, N: 0})
	w.Device(0).Peer(0).GiveUp()
	if settle.Staged(w) != 0 || settle.Quiet(w) {
		t.Error("a datagram is deliverable, and it is quiet")
	}
	w.Do(world.Act{Kind: world.Move, At: 0, From: 9})
	if !settle.Quiet(w) {
		t.Error("nobody is there, and it isn't quiet")
	}
}

// P23.3, T5: over an air that does its duty what is taken is written.
func TestDuty(t *testing.T) {
	for n := 2; n <= 8; n++ {
		for i := range n {
			for j := range n {
				if i == j {
					continue
				}
				w := of(t, n)
				tun(w, i, j, byte(i), byte(j))
				settle.Round(w, 3)
				if taken, written, _ := books.Flow(w.Records(), i, j); taken != 1 || written != 1 || !settle.Quiet(w) {
					t.Error(n, i, j, taken, written)
				}
			}
		}
	}
	w := of(t, 4)
	for k := range 300 {
		tun(w, k%4, (k+1+k/4%3)%4, byte(k), byte(k>>8))
		settle.Rounds(w, 1+k%9, 1000)
	}
	settle.Until(w, 1000, 1000)
	if len(books.Lost(w.Records())) != 0 || len(books.Strange(w.Records())) != 0 || len(w.Records()) != 600 {
		t.Error(books.Lost(w.Records()), books.Strange(w.Records()))
	}
}
