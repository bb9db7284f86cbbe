// Package num is layer 1: numbers and bytes as texts.
package num

import (
	"math"

	"snicket/api"
)

// Print tells the decimal digits of u.
func Print(u uint64) string {
	var room [20]byte
	at := len(room)
next:
	at--
	room[at] = byte('0' + u%10)
	u /= 10
	if u > 0 {
		goto next
	}
	return string(room[at:])
}

// Read tells the number whose text s is, as a whole.
func Read(s string) (uint64, api.Code) {
	if !isNumber(s) {
		return 0, api.Form
	}
	var u uint64
	for _, r := range s {
		d := uint64(r - '0')
		if u > (math.MaxUint64-d)/10 {
			return 0, api.Long
		}
		u = u*10 + d
	}
	return u, api.Fine
}

// isNumber looks at the whole text ahead of its value: a wrong sign far behind
// counts more than a number that is too great.
func isNumber(s string) bool {
	for _, r := range s {
		if r < '0' || r > '9' {
			return false
		}
	}
	return s == "0" || s != "" && s[0] != '0'
}

// Hex tells two hexadecimal digits for each byte.
func Hex(b []byte) string {
	out := make([]byte, 0, 2*len(b))
	for _, x := range b {
		out = append(out, digit(x>>4), digit(x&15))
	}
	return string(out)
}

// digit tells the sign of a number from 0 to 15.
func digit(x byte) byte {
	if x < 10 {
		return '0' + x
	}
	return 'a' + x - 10
}

// ReadHex tells the bytes whose text s is, as a whole.
func ReadHex(s string) ([]byte, api.Code) {
	out := make([]byte, 0, len(s)/2)
	var high byte
	half := false
	for _, r := range s {
		x, ok := value(r)
		if !ok {
			return nil, api.Form
		}
		if half {
			out = append(out, high<<4|x)
		}
		high, half = x, !half
	}
	if half {
		return nil, api.Short
	}
	return out, api.Fine
}

// value tells the number that a hexadecimal digit stands for.
func value(r rune) (byte, bool) {
	switch {
	case r >= '0' && r <= '9':
		return byte(r - '0'), true
	case r >= 'a' && r <= 'f':
		return byte(r-'a') + 10, true
	}
	return 0, false
}
