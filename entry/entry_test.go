package entry

import (
	"math"
	"testing"

	"almanac/api"
	"almanac/super"
)

func TestEntry(t *testing.T) {
	c := api.Config{Page: 16}
	for _, b := range []super.Block{{Config: c}, {Epoch: 5, Config: c, Root: api.Addr{Sector: 65535, N: 1 << 20}, Seq: 9}, {Epoch: math.MaxUint64, Config: c, Seq: math.MaxUint64}} {
		rec := Encode(b)
		if got, ok := Decode(rec, c); !ok || got != b {
			t.Errorf("%v: %v", b, got)
		}
		if len(rec) > 32 {
			t.Errorf("%v: %d bytes", b, len(rec))
		}
		for n := range rec {
			if got, ok := Decode(rec[:n], c); ok || got != (super.Block{}) {
				t.Errorf("%v cut to %d: %v", b, n, got)
			}
		}
		if _, ok := Decode(append(rec, 0), c); ok {
			t.Errorf("%v, and more", b)
		}
	}
	if _, ok := Decode(Encode(super.Block{Root: api.Addr{Sector: -1}}), c); ok {
		t.Error("a place below 0")
	}
}
