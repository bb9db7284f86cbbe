package script

import (
	"math"
	"strings"

	"snicket/api"
	"snicket/num"
	"snicket/world"
)

// fault is thrown where words turn out to be no act, or an act has no line.
type fault struct{}

// part is a word of an act's line: how it is told of an act, and how it is put
// into one. Both throw a fault.
type part struct {
	tell func(a world.Act) string
	put  func(word string, a *world.Act)
}

// form is the line of a kind of acts.
type form struct {
	kind  int
	word  string
	parts []part
}

// number is a part that is a NUMBER.
func number(at func(a *world.Act) *int) part {
	return part{
		tell: func(a world.Act) string { return printNumber(*at(&a)) },
		put:  func(word string, a *world.Act) { *at(a) = readNumber(word) },
	}
}

// forms tells the lines of all kinds of acts.
func forms() []form {
	at := number(func(a *world.Act) *int { return &a.At })
	n := number(func(a *world.Act) *int { return &a.N })
	from := number(func(a *world.Act) *int { return &a.From })
	hex := part{
		tell: func(a world.Act) string { return printHex(a.Bytes) },
		put:  func(word string, a *world.Act) { a.Bytes = readHex(word) },
	}
	load := part{
		tell: func(a world.Act) string { return printLoad(a.N) },
		put:  func(word string, a *world.Act) { a.N = readLoad(word) },
	}
	return []form{
		{world.Tun, "tun", []part{at, n, hex}},
		{world.Deliver, "deliver", []part{n}},
		{world.Redirect, "redirect", []part{at, n, from}},
		{world.Forge, "forge", []part{at, from, hex}},
		{world.Wait, "wait", []part{n}},
		{world.Move, "move", []part{at, from}},
		{world.Reveal, "reveal", []part{at}},
		{world.Load, "load", []part{at, load}},
	}
}

// printNumber tells a NUMBER.
func printNumber(n int) string {
	if n < 0 || n > math.MaxInt32 {
		panic(fault{})
	}
	return num.Print(uint64(n))
}

// readNumber reads a NUMBER.
func readNumber(word string) int {
	u, code := num.Read(word)
	if code != api.Fine || u > math.MaxInt32 {
		panic(fault{})
	}
	return int(u)
}

// none stands for no bytes, as there are no words without signs.
const none = "-"

// printHex tells a HEX.
func printHex(b []byte) string {
	if len(b) == 0 {
		return none
	}
	return num.Hex(b)
}

// readHex reads a HEX.
func readHex(word string) []byte {
	if word == none {
		return nil
	}
	b, code := num.ReadHex(word)
	if code != api.Fine || len(b) == 0 {
		panic(fault{})
	}
	return b
}

// printLoad tells whether a number is odd.
func printLoad(n int) string {
	if n%2 != 0 {
		return "on"
	}
	return "off"
}

// readLoad reads whether a device is loaded.
func readLoad(word string) int {
	switch word {
	case "on":
		return 1
	case "off":
		return 0
	}
	panic(fault{})
}

// Print tells the line of an act.
func Print(a world.Act) (line string, code api.Code) {
	defer func() {
		if recover() != nil {
			line, code = "", api.Form
		}
	}()
	for _, f := range forms() {
		if f.kind != a.Kind {
			continue
		}
		words := []string{f.word}
		for _, p := range f.parts {
			words = append(words, p.tell(a))
		}
		return strings.Join(words, " "), api.Fine
	}
	return "", api.Arg
}

// Parse tells the act whose line s is.
func Parse(s string) (a world.Act, code api.Code) {
	defer func() {
		if recover() != nil {
			a, code = world.Act{}, api.Word
		}
	}()
	words := strings.Split(s, " ")
	for _, f := range forms() {
		if f.word == words[0] {
			return f.read(words[1:]), api.Fine
		}
	}
	panic(fault{})
}

// read tells the act of which these are the words behind the first one.
func (f form) read(words []string) world.Act {
	if len(words) != len(f.parts) {
		panic(fault{})
	}
	a := world.Act{Kind: f.kind}
	for i, p := range f.parts {
		p.put(words[i], &a)
	}
	return a
}
