// Package ints: shifts and conversions of numbers. See doc/01-ints.md.
package ints

import "almanac/api"

const (
	mostBytes = 64      // that Put lays
	mostUp    = 1 << 62 // that Up tells
	varBytes  = 10      // of the longest Var
)

// Zig, Zag go from signed numbers and back.
func Zig(v int64) uint64 { return uint64(v)<<1 ^ uint64(v>>63) }

func Zag(u uint64) int64 { return int64(u>>1) ^ -int64(u&1) }

// Put tells b, and the lowest n bytes of v behind it.
func Put(b []byte, v uint64, n int) []byte {
	n = min(max(n, 0), mostBytes)
	out := make([]byte, len(b), len(b)+n)
	copy(out, b)
	for range n {
		out = append(out, byte(v))
		v >>= 8
	}
	return out
}

// Get tells the number of the first n bytes.
func Get(b []byte, n int) (uint64, bool) {
	if n < 0 || n > 8 || n > len(b) {
		return 0, false
	}
	var v uint64
	for i := range n {
		v |= uint64(b[i]) << (8 * i)
	}
	return v, true
}

// Up tells the least multiple of to that is not below v.
func Up(v, to int) (int, bool) {
	if v < 0 || to < 1 || v > mostUp {
		return 0, false
	}
	rest := v % to
	if rest == 0 {
		return v, true
	}
	if base := v - rest; to <= mostUp-base {
		return base + to, true
	}
	return 0, false
}

// Log tells how many bits v has.
func Log(v uint64) int {
	n := 0
	for step := 32; step > 0; step >>= 1 {
		if v>>step != 0 {
			n += step
			v >>= step
		}
	}
	return n + int(v)
}

// Turn tells v with its bytes in the other order.
func Turn(v uint64) uint64 {
	var out uint64
	for range 8 {
		out = out<<8 | v&0xFF
		v >>= 8
	}
	return out
}

// Field tells n bits of b from bit at on.
func Field(b []byte, at, n int) (uint64, bool) {
	// The whole bytes are held against the place, as eight times their number may be no int.
	if n < 0 || n > 64 || at < 0 || at>>3 > len(b) || at+n > len(b)<<3 {
		return 0, false
	}
	var v uint64
	for i := range n {
		bit := uint64(b[(at+i)>>3]) >> ((at + i) & 7) & 1
		v |= bit << i
	}
	return v, true
}

// Narrow tells a number as a smaller kind.
func Narrow[T int8 | int16 | int32 | uint8 | uint16 | uint32](v int64) (T, bool) {
	if t := T(v); int64(t) == v {
		return t, true
	}
	return 0, false
}

// Var tells b, and v behind it in as few bytes as it takes.
func Var(b []byte, v uint64) []byte {
	out := make([]byte, len(b), len(b)+varBytes)
	copy(out, b)
	for v >= 0x80 {
		out = append(out, byte(v)|0x80)
		v >>= 7
	}
	out = append(out, byte(v))
	return out[:len(out):len(out)]
}

// ReadVar tells the number at the front of b, and how many bytes it has.
func ReadVar(b []byte) (uint64, int, api.Errno) {
	var v uint64
	for i := range varBytes {
		if i == len(b) {
			return 0, 0, api.ErrShort
		}
		v |= uint64(b[i]&0x7F) << (7 * i)
		if b[i] >= 0x80 {
			continue
		}
		if i > 0 && b[i] == 0 || i == varBytes-1 && b[i] > 1 {
			return 0, 0, api.ErrForm
		}
		return v, i + 1, api.OK
	}
	return 0, 0, api.ErrForm
}
