package ring

import (
	"bytes"

	"almanac/api"
	"almanac/crc"
	"almanac/disk"
	"almanac/ints"
)

// A ring's first two sectors are heads: the one with the greater number of change counts, the other one is written next.
// So a change is one sector, written when all that it names is kept.
const (
	heads    = 2
	least    = 4 // sectors of a ring
	magic    = "RINGHEAD"
	bound    = 1 << 62 // of numbers: above it they are nobody's
	wordSize = 8
	halfSize = 4
	sumSize  = 4

	partHead = wordSize + 2*halfSize // of a record's sector: its number, its bytes, which sector of it this is
)

// head is what a head's sector says.
type head struct {
	change      uint64 // how many changes there were
	first, next uint64 // numbers of records
	start, used int    // where the eldest one begins, how many sectors all take
}

// encode lays a head in a sector.
func (h head) encode(size int) []byte {
	b := []byte(magic)
	for _, v := range []uint64{h.change, h.first, h.next} {
		b = ints.Put(b, v, wordSize)
	}
	b = ints.Put(b, uint64(h.start), halfSize)
	b = ints.Put(b, uint64(h.used), halfSize)
	return seal(b, size)
}

// seal fills bytes up to a sector, with its sum.
func seal(b []byte, size int) []byte {
	return crc.Seal(append(b, make([]byte, size-sumSize-len(b))...))
}

// decode tells the head of a sector that stands in a slot, of a ring with so many sectors for records.
func decode(sector []byte, slot, sectors int) (head, bool) {
	b, e := crc.Open(sector)
	if e != api.OK || !bytes.HasPrefix(b, []byte(magic)) {
		return head{}, false
	}
	b = b[len(magic):]
	word := func(n int) uint64 {
		v, _ := ints.Get(b, n)
		b = b[n:]
		return v
	}
	h := head{change: word(wordSize), first: word(wordSize), next: word(wordSize)}
	h.start, h.used = int(word(halfSize)), int(word(halfSize))
	right := h.change < bound && int(h.change%heads) == slot && h.first > 0 && h.first <= h.next && h.next < bound &&
		h.start < sectors && h.used <= sectors && h.next-h.first <= uint64(h.used)
	if !right {
		return head{}, false
	}
	return h, true
}

// readHeads tells both heads, and which of them are right.
func readHeads(d *disk.Disk, at, n int) (h [heads]head, ok [heads]bool, e api.Errno) {
	for i := range h {
		b, e := d.Read(at + i)
		if e != api.OK {
			return h, ok, e
		}
		h[i], ok[i] = decode(b, i, n-heads)
	}
	return h, ok, api.OK
}

// part is one sector of a record.
type part struct {
	num   uint64
	bytes int
	index int
}

func (p part) encode(piece []byte, size int) []byte {
	b := ints.Put(nil, p.num, wordSize)
	b = ints.Put(b, uint64(p.bytes), halfSize)
	b = ints.Put(b, uint64(p.index), halfSize)
	return seal(append(b, piece...), size)
}

func decodePart(sector []byte) (part, []byte, bool) {
	b, e := crc.Open(sector)
	if e != api.OK {
		return part{}, nil, false
	}
	num, _ := ints.Get(b, wordSize)
	size, _ := ints.Get(b[wordSize:], halfSize)
	index, _ := ints.Get(b[wordSize+halfSize:], halfSize)
	return part{num, int(size), int(index)}, b[partHead:], true
}
