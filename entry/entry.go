// Package entry: the journal's records, that say what is saved.
package entry

import (
	"math"

	"almanac/api"
	"almanac/codec"
	"almanac/super"
)

// Encode tells the record of a superblock: its epoch, its root, its number.
func Encode(b super.Block) []byte {
	w := codec.NewWriter()
	for _, v := range []int64{int64(b.Epoch), int64(b.Root.Sector), int64(b.Root.N), int64(b.Seq)} {
		w.Int(v)
	}
	return w.Done()
}

// Decode tells the superblock of a shape that a record speaks of.
func Decode(rec []byte, c api.Config) (super.Block, bool) {
	r := codec.NewReader(rec)
	b := super.Block{Config: c, Epoch: uint64(r.Int())}
	b.Root = api.Addr{Sector: r.Between(0, math.MaxInt), N: r.Between(0, math.MaxInt)}
	b.Seq = uint64(r.Int())
	if r.End() != api.OK {
		return super.Block{}, false
	}
	return b, true
}
