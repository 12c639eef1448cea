// Package runes is layer 1: bytes as code points (UTF-8), and places in a text.
package runes

import (
	"bytes"

	"rowan/api"
)

const (
	lastPoint = 1114111
	gapFirst  = 55296 // from here to gapLast there are no code points
	gapLast   = 57343
	lineFeed  = 10
)

// Next code point at a place, and how many bytes it has.
func Next(b []byte, at int) (int32, int, api.Code) {
	if at < 0 || at >= len(b) {
		return 0, 0, api.Arg
	}
	size, r, least := lead(b[at])
	if size == 0 || size > len(b)-at {
		return 0, 0, api.Utf
	}
	for _, c := range b[at+1 : at+size] {
		if c>>6 != 0b10 {
			return 0, 0, api.Utf
		}
		r = r<<6 | int32(c&0b111111)
	}
	// A number below the least has shorter bytes of its own, so these aren't its bytes.
	if r < least || !isPoint(r) {
		return 0, 0, api.Utf
	}
	return r, size, api.OK
}

// lead: how many bytes a first byte asks for (0: it is no first byte), its own
// bits, and the least code point that has so many bytes.
func lead(c byte) (size int, bits, least int32) {
	switch {
	case c>>7 == 0:
		return 1, int32(c), 0
	case c>>5 == 0b110:
		return 2, int32(c & 0b11111), 1 << 7
	case c>>4 == 0b1110:
		return 3, int32(c & 0b1111), 1 << 11
	case c>>3 == 0b11110:
		return 4, int32(c & 0b111), 1 << 16
	}
	return 0, 0, 0
}

func isPoint(r int32) bool {
	return r >= 0 && r <= lastPoint && (r < gapFirst || r > gapLast)
}

// Put a code point behind bytes.
func Put(b []byte, r int32) ([]byte, bool) {
	if !isPoint(r) {
		return nil, false
	}
	// New memory: an append to b could write into what b shares with others.
	out := make([]byte, len(b), len(b)+4)
	copy(out, b)
	switch {
	case r < 1<<7:
		out = append(out, byte(r))
	case r < 1<<11:
		out = append(out, 0b11000000|byte(r>>6), group(r))
	case r < 1<<16:
		out = append(out, 0b11100000|byte(r>>12), group(r>>6), group(r))
	default:
		out = append(out, 0b11110000|byte(r>>18), group(r>>12), group(r>>6), group(r))
	}
	return out, true
}

// group: the byte that holds a number's lowest bits, behind a first byte.
func group(r int32) byte {
	return 0b10000000 | byte(r&0b111111)
}

// Check: the first wrong place; -1: none.
func Check(b []byte) int {
	if _, end := walk(b); end < len(b) {
		return end
	}
	return -1
}

// Count of code points.
func Count(b []byte) (int, api.Code) {
	count, end := walk(b)
	if end < len(b) {
		return 0, api.Utf
	}
	return count, api.OK
}

// walk goes over code points' bytes as far as they stand: how many code points,
// and the place behind them.
func walk(b []byte) (count, end int) {
	for end < len(b) {
		_, size, e := Next(b, end)
		if e != api.OK {
			break
		}
		end += size
		count++
	}
	return count, end
}

// Place: its line and column.
func Place(b []byte, at int) (int, int, api.Code) {
	if at < 0 || at > len(b) {
		return 0, 0, api.Arg
	}
	// A code point that at cuts is cut short here, so this finds both: a wrong
	// place ahead, and a place within a code point's bytes.
	ahead := b[:at]
	if Check(ahead) >= 0 {
		return 0, 0, api.Utf
	}
	lines := bytes.Count(ahead, []byte{lineFeed})
	begin := bytes.LastIndexByte(ahead, lineFeed) + 1
	columns, _ := walk(ahead[begin:])
	return lines + 1, columns + 1, api.OK
}
