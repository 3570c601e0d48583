package image

import (
	"math"

	"almanac/api"
	"almanac/codec"
	"almanac/ints"
	"almanac/live"
)

// An image is one tree. Its keys are, rising: each process, whose value is how many regions it has; each region, by its
// process and its place among that one's; each slot, by its process and page, whose value is where the page's bytes lie.
const (
	regionKeys = 1 << 22
	slotKeys   = 1 << 23

	indexBits = 5 // of a region's place
	pageBits  = 16

	placeSize = 2 // bytes of a region's page
	protSize  = 1
)

func processKey(pid int) int { return pid }

func regionKey(pid, index int) int { return regionKeys | pid<<indexBits | index }

func slotKey(pid, page int) int { return slotKeys | pid<<pageBits | page }

// pidOf, restOf take a key apart, of those from first on, whose lowest bits are so many.
func pidOf(key, first, bits int) int { return (key - first) >> bits }

func restOf(key, bits int) int { return key & (1<<bits - 1) }

func processValue(x live.Process) []byte {
	return codec.NewWriter().Int(int64(len(x.Regions))).Done()
}

// regionValue has a region's pages in two bytes each: the last one, not the one behind it, has no more.
func regionValue(r api.Region) []byte {
	b := ints.Put(nil, uint64(r.Lo), placeSize)
	b = ints.Put(b, uint64(r.Hi-1), placeSize)
	return ints.Put(b, uint64(r.Prot), protSize)
}

func regionOf(v []byte) (api.Region, bool) {
	if len(v) != 2*placeSize+protSize {
		return api.Region{}, false
	}
	lo, _ := ints.Get(v, placeSize)
	last, _ := ints.Get(v[placeSize:], placeSize)
	prot, _ := ints.Get(v[2*placeSize:], protSize)
	return api.Region{Lo: int(lo), Hi: int(last) + 1, Prot: int(prot)}, true
}

func addrValue(a api.Addr) []byte {
	return codec.NewWriter().Int(int64(a.Sector)).Int(int64(a.N)).Done()
}

func addrOf(v []byte) (api.Addr, bool) {
	r := codec.NewReader(v)
	a := api.Addr{Sector: r.Between(math.MinInt, math.MaxInt), N: r.Between(math.MinInt, math.MaxInt)}
	return a, r.End() == api.OK
}
