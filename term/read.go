package term

import (
	"math"
	"strings"

	"snicket/api"
	"snicket/num"
)

// shape is what stands in the brackets of a kind: a number from low to high, if
// it is numbered, and then so many parts.
type shape struct {
	least, most int
	numbered    bool
	low, high   uint64
	sorted      bool
}

// shapes tells the shapes of all kinds that have brackets.
func shapes() map[int]shape {
	return map[int]shape{
		Pub:  {least: 1, most: 1},
		Dh:   {least: 2, most: 2, sorted: true},
		Hash: {least: 1, most: api.MaxTerm},
		Kdf:  {least: 2, most: 2, numbered: true, low: 1, high: 3},
		Mac:  {least: 2, most: 2},
		Seal: {least: 3, most: 3, numbered: true, high: math.MaxUint64},
		List: {most: api.MaxTerm},
	}
}

// fault is thrown where a text turns out to be no term.
type fault struct{}

// reader goes through a text.
type reader struct {
	text   string
	at     int
	shapes map[int]shape
}

// parse tells the kind, the number and (if they are asked for) the parts of a
// term; nothing of a text that is none.
func parse(t string, asked bool) (kind int, n uint64, parts []string) {
	if len(t) > api.MaxTerm {
		return 0, 0, nil
	}
	defer func() {
		if recover() != nil {
			kind, n, parts = 0, 0, nil
		}
	}()
	r := &reader{text: t}
	var told *[]string
	if asked {
		told = &parts
	}
	kind, n = r.term(told)
	if r.at < len(t) {
		panic(fault{})
	}
	return kind, n, parts
}

// term goes behind the term that begins here, and tells its kind and its number;
// its parts go to told, if that isn't nil.
func (r *reader) term(told *[]string) (int, uint64) {
	if r.at == len(r.text) {
		panic(fault{})
	}
	kind := strings.IndexByte(letters, r.text[r.at]) + 1
	r.at++
	switch kind {
	case 0:
		panic(fault{})
	case Zero:
		return kind, 0
	case Atom:
		return kind, r.number(0, math.MaxUint32)
	case Number:
		return kind, r.number(0, math.MaxUint64)
	case Data:
		r.data()
		return kind, 0
	}
	if r.shapes == nil { // most texts that are asked for have no brackets
		r.shapes = shapes()
	}
	return kind, r.inside(r.shapes[kind], told)
}

// inside goes behind the brackets.
func (r *reader) inside(s shape, told *[]string) uint64 {
	var n uint64
	var last string
	count := 0
	r.sign('(')
	if s.numbered {
		n = r.number(s.low, s.high)
		r.sign(',')
	}
	if s.least == 0 && r.next(')') {
		return n
	}
more:
	from := r.at
	r.term(nil)
	part := r.text[from:r.at]
	if s.sorted && count > 0 && last > part {
		panic(fault{})
	}
	if told != nil {
		*told = append(*told, part)
	}
	last = part
	count++
	if count < s.most && r.next(',') {
		goto more
	}
	if count < s.least {
		panic(fault{})
	}
	r.sign(')')
	return n
}

// number goes behind the digits that stand here.
func (r *reader) number(low, high uint64) uint64 {
	from := r.at
	for r.at < len(r.text) && r.text[r.at] >= '0' && r.text[r.at] <= '9' {
		r.at++
	}
	n, code := num.Read(r.text[from:r.at])
	if code != api.Fine || n < low || n > high {
		panic(fault{})
	}
	return n
}

// data goes behind the hexadecimal digits that stand here.
func (r *reader) data() {
	from := r.at
	for r.at < len(r.text) && isHex(r.text[r.at]) {
		r.at++
	}
	if (r.at-from)%2 != 0 {
		panic(fault{})
	}
}

// isHex asks for the digits that package num tells for bytes.
func isHex(x byte) bool {
	return x >= '0' && x <= '9' || x >= 'a' && x <= 'f'
}

// next goes behind that sign, if it stands here.
func (r *reader) next(x byte) bool {
	if r.at == len(r.text) || r.text[r.at] != x {
		return false
	}
	r.at++
	return true
}

// sign goes behind a sign that has to stand here.
func (r *reader) sign(x byte) {
	if !r.next(x) {
		panic(fault{})
	}
}
