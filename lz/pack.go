package lz

import (
	"bytes"

	"almanac/ints"
)

const (
	hashed   = 4  // bytes that are looked for at a time
	minTable = 6  // bits of the table of places, at least
	maxTable = 14 // and at most
	spread   = 2654435761
	split    = 3 // bytes that a literal may cost that a copy has cut in two
)

// Pack tells some packed bytes.
func Pack(b []byte) []byte {
	best := append([]byte{raw}, b...)
	try := func(out []byte) {
		if len(out) < len(best) {
			best = out
		}
	}
	try(greedy([]byte{tokens}, b))
	if h := len(b) / 2; h > 0 && len(b) == 2*h && bytes.Equal(b[:h:h], b[h:]) {
		// Of two rows that are the same the second one is a copy, whatever the greedy way did at their seam.
		try(layCopy(layLiteral([]byte{tokens}, b[:h:h]), h, h))
		try(layCopy(greedy([]byte{tokens}, b[:h:h]), h, h))
	}
	return append([]byte(nil), best...)
}

func layLiteral(out, piece []byte) []byte {
	if len(piece) == 0 {
		return out
	}
	out = append(out, ints.Var(nil, uint64(len(piece))<<1)...)
	return append(out, piece...)
}

func layCopy(out []byte, n, d int) []byte {
	out = append(out, ints.Var(nil, uint64(n)<<1|1)...)
	return append(out, ints.Var(nil, uint64(d))...)
}

// varSize tells how many bytes a Var of v has.
func varSize(v int) int { return max(1, (ints.Log(uint64(v))+6)/7) }

// greedy lays b behind out, and takes at each place the copy that was seen last, if it makes it shorter.
func greedy(out, b []byte) []byte {
	bits := min(max(ints.Log(uint64(len(b))), minTable), maxTable)
	last := make([]int, 1<<bits) // places, and one
	start, at := 0, 0
	for at+hashed <= len(b) {
		word, _ := ints.Get(b[at:], hashed)
		slot := uint32(word) * spread >> (32 - bits)
		from := last[slot] - 1
		last[slot] = at + 1
		n := 0
		if from >= 0 {
			n = alike(b, from, at)
		}
		if n < 1 || n <= varSize(n<<1)+varSize(at-from)+split {
			at++
			continue
		}
		out = layCopy(layLiteral(out, b[start:at:at]), n, at-from)
		at += n
		start = at
	}
	return layLiteral(out, b[start:])
}

// alike tells how many bytes from at on are those from from on.
func alike(b []byte, from, at int) int {
	n := 0
	for at+n < len(b) && b[from+n] == b[at+n] {
		n++
	}
	return n
}
