// Package le is layer 1: see shared/doc/01-le.md.
package le

import (
	"strings"

	"doorward/api"
)

// most is the longest text whose length two bytes can tell.
const most = 65535

// Put writes a number in so many bytes, the lowest one first; Get reads one.
func Put(n uint64, size int) (string, api.Errno) {
	if !sized(size) || n>>(8*(size-1)) > 255 {
		return "", api.ErrArg
	}
	b := make([]byte, size)
	for i := range size {
		b[i] = byte(n >> (8 * i))
	}
	return string(b), api.OK
}

func Get(s string, at, size int) (uint64, int, api.Errno) {
	if !sized(size) || at < 0 {
		return 0, 0, api.ErrArg
	}
	// Taken from the length, as a place near the greatest int would go round.
	if at > len(s)-size {
		return 0, 0, api.ErrShort
	}
	n := uint64(0)
	for i := range size {
		n |= uint64(s[at+i]) << (8 * i)
	}
	return n, at + size, api.OK
}

func sized(size int) bool { return size >= 1 && size <= 8 }

// Text writes a text with its length ahead of it; Cut reads one.
func Text(s string) (string, api.Errno) {
	if len(s) > most {
		return "", api.ErrLong
	}
	size, _ := Put(uint64(len(s)), 2)
	return size + s, api.OK
}

func Cut(s string, at int) (string, int, api.Errno) {
	size, from, why := Get(s, at, 2)
	if why != api.OK {
		return "", 0, why
	}
	to := from + int(size)
	if to > len(s) {
		return "", 0, api.ErrShort
	}
	return s[from:to], to, api.OK
}

// Trim takes zero bytes off the end; Fill puts them there.
func Trim(s string) string { return strings.TrimRight(s, "\x00") }

func Fill(s string, size int) (string, api.Errno) {
	if len(s) > size {
		return "", api.ErrLong
	}
	return s + strings.Repeat("\x00", size-len(s)), api.OK
}
