package wire

import (
	"snicket/api"
)

// field is a part of a message: a number of so many bytes, by get and set, or (of
// the size 0) a term, by text.
type field struct {
	size int
	get  func(m *api.Message) uint64
	set  func(m *api.Message, u uint64)
	text func(m *api.Message) *string
}

// clear makes the field zero.
func (f field) clear(m *api.Message) {
	if f.size > 0 {
		f.set(m, 0)
		return
	}
	*f.text(m) = ""
}

// word is a field that is a term.
func word(text func(m *api.Message) *string) field {
	return field{text: text}
}

// place is a field of four bytes.
func place(at func(m *api.Message) *uint32) field {
	return field{
		size: 4,
		get:  func(m *api.Message) uint64 { return uint64(*at(m)) },
		set:  func(m *api.Message, u uint64) { *at(m) = uint32(u) },
	}
}

// row tells the fields of a kind, in order; none of no kind.
func row(kind int) []field {
	sender := place(func(m *api.Message) *uint32 { return &m.Sender })
	receiver := place(func(m *api.Message) *uint32 { return &m.Receiver })
	eph := word(func(m *api.Message) *string { return &m.Eph })
	mac1 := word(func(m *api.Message) *string { return &m.Mac1 })
	mac2 := word(func(m *api.Message) *string { return &m.Mac2 })
	switch kind {
	case api.Init:
		static := word(func(m *api.Message) *string { return &m.Static })
		stamp := word(func(m *api.Message) *string { return &m.Stamp })
		return []field{sender, eph, static, stamp, mac1, mac2}
	case api.Response:
		empty := word(func(m *api.Message) *string { return &m.Empty })
		return []field{sender, receiver, eph, empty, mac1, mac2}
	case api.CookieMsg:
		nonce := word(func(m *api.Message) *string { return &m.Nonce })
		cookie := word(func(m *api.Message) *string { return &m.Cookie })
		return []field{receiver, nonce, cookie}
	case api.Transport:
		counter := field{
			size: 8,
			get:  func(m *api.Message) uint64 { return m.Counter },
			set:  func(m *api.Message, u uint64) { m.Counter = u },
		}
		data := word(func(m *api.Message) *string { return &m.Data })
		return []field{receiver, counter, data}
	}
	return nil
}

// putNumber puts a number behind b, its lowest byte first.
func putNumber(b []byte, size int, u uint64) []byte {
next:
	if size > 0 {
		b = append(b, byte(u))
		u >>= 8
		size--
		goto next
	}
	return b
}

// reader goes through bytes, till something is wrong: the first fault counts.
type reader struct {
	rest []byte
	code api.Code
}

// fail tells a fault.
func (r *reader) fail(code api.Code) {
	if r.code == api.Fine {
		r.code = code
	}
}

// take goes behind so many bytes.
func (r *reader) take(size int) []byte {
	if size > len(r.rest) {
		r.fail(api.Short)
	}
	if r.code != api.Fine {
		return nil
	}
	b := r.rest[:size]
	r.rest = r.rest[size:]
	return b
}

// number goes behind a number, its lowest byte first.
func (r *reader) number(size int) uint64 {
	var u uint64
	for i, x := range r.take(size) {
		u |= uint64(x) << (8 * i)
	}
	return u
}

// field goes behind a field, and puts it into m.
func (r *reader) field(f field, m *api.Message) {
	if f.size > 0 {
		f.set(m, r.number(f.size))
		return
	}
	t := string(r.take(int(r.number(2))))
	if !fits(t) {
		r.fail(api.Form)
	}
	*f.text(m) = t
}
