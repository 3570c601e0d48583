package geom

import (
	"math"
	"testing"

	"almanac/api"
	"almanac/codec"
)

var ordinary = api.Config{Sectors: 1000, Sector: 512, Journal: 8, Segment: 30, Page: 512, Frames: 8, Procs: 4, Regions: 4, Pages: 64}

func with(f func(c *api.Config)) api.Config {
	c := ordinary
	f(&c)
	return c
}

func TestCheck(t *testing.T) { // P601
	good := []api.Config{
		ordinary,
		with(func(c *api.Config) { c.Sectors = 10 + 16*30 }),
		with(func(c *api.Config) { c.Sectors, c.Journal = 65536, 4096 }),
		with(func(c *api.Config) { c.Segment, c.Page = 2, 920 }), // 920 and 104 are two sectors
		with(func(c *api.Config) { c.Sector, c.Page, c.Segment = 64, 16, 2 }),
		with(func(c *api.Config) { c.Frames, c.Procs, c.Regions, c.Pages = 4096, 64, 32, 65536 }),
		with(func(c *api.Config) { c.Frames, c.Procs, c.Regions, c.Pages = 4, 1, 1, 1 }),
	}
	for _, c := range good {
		if Check(c) != api.OK {
			t.Errorf("P601: %v", c)
		}
	}
	bad := []api.Config{
		{},
		with(func(c *api.Config) { c.Sectors = 10 + 16*30 - 1 }),
		with(func(c *api.Config) { c.Sectors = 65537 }),
		with(func(c *api.Config) { c.Sector = 63 }),
		with(func(c *api.Config) { c.Sector = 4097 }),
		with(func(c *api.Config) { c.Page = 15 }),
		with(func(c *api.Config) { c.Page = 4097 }),
		with(func(c *api.Config) { c.Journal = 3 }),
		with(func(c *api.Config) { c.Journal = 4097; c.Sectors = 65536 }),
		with(func(c *api.Config) { c.Segment = 1 }),
		with(func(c *api.Config) { c.Segment = 4097 }),
		with(func(c *api.Config) { c.Segment = math.MaxInt }),
		with(func(c *api.Config) { c.Frames = 3 }),
		with(func(c *api.Config) { c.Frames = 4097 }),
		with(func(c *api.Config) { c.Procs = 0 }),
		with(func(c *api.Config) { c.Procs = 65 }),
		with(func(c *api.Config) { c.Regions = 0 }),
		with(func(c *api.Config) { c.Regions = 33 }),
		with(func(c *api.Config) { c.Pages = 0 }),
		with(func(c *api.Config) { c.Pages = 65537 }),
		with(func(c *api.Config) { c.Segment, c.Page = 2, 921 }), // one more byte: three sectors
	}
	for _, c := range bad {
		if Check(c) != api.ErrArg {
			t.Errorf("P601: %v", c)
		}
		Segments(c)
		Of(c, 20)
		Blob(c, 20)
		if _, _, e := Segment(c, 0); e != api.ErrArg || K(c) != 0 {
			t.Errorf("P602, P603: %v", c)
		}
	}
}

func TestPlaces(t *testing.T) { // P602, P603
	c := ordinary
	at, n := Journal(c)
	if at != 2 || n != 8 || Supers != 2 || Segments(c) != 33 || K(c) != 15 {
		t.Errorf("P602, P603: %d, %d, %d, %d", at, n, Segments(c), K(c))
	}
	for k := range 33 {
		at, n, e := Segment(c, k)
		if at != 10+30*k || n != 30 || e != api.OK || Of(c, at) != k || Of(c, at+29) != k {
			t.Errorf("P602: segment %d: %d, %d, %v", k, at, n, e)
		}
	}
	for _, k := range []int{-1, 33, math.MaxInt, math.MinInt} {
		if at, n, e := Segment(c, k); at != 0 || n != 0 || e != api.ErrArg {
			t.Errorf("P602: segment %d", k)
		}
	}
	c.Sectors = 10 + 33*30 + 5
	for _, s := range []int{-1, 0, 9, 10 + 33*30, c.Sectors, math.MaxInt, math.MinInt} {
		if Of(c, s) != -1 {
			t.Errorf("P602: sector %d: %d", s, Of(c, s))
		}
	}
	for bytes, want := range map[int]int{576: 2, -5: 1, 0: 1, 472: 1, 473: 2, 984: 2, 985: 3, math.MaxInt: math.MaxInt/512 + 2} {
		if Blob(c, bytes) != want {
			t.Errorf("P603: Blob of %d: %d", bytes, Blob(c, bytes))
		}
	}
	least := with(func(c *api.Config) { c.Sectors, c.Segment = 10+16*2, 2 })
	if Check(least) != api.OK || K(least) != 0 {
		t.Errorf("P603: %d", K(least))
	}
	if k := K(with(func(c *api.Config) { c.Sectors, c.Segment, c.Page, c.Sector = 65536, 60, 16, 64 })); k != (1092-8)*30/24 {
		t.Errorf("P603: %d", k)
	}
}

func TestEncode(t *testing.T) { // P604
	w := codec.NewWriter()
	for _, v := range []int64{1000, 512, 8, 30, 512, 8, 4, 4, 64} {
		w.Int(v)
	}
	b := Encode(ordinary)
	if string(b) != string(w.Done()) {
		t.Errorf("P604: % x", b)
	}
	if c, e := Decode(b); c != ordinary || e != api.OK {
		t.Errorf("P604: %v, %v", c, e)
	}
	for _, x := range [][]byte{nil, b[:len(b)-1], append(b, 0), Encode(api.Config{}), Encode(with(func(c *api.Config) { c.Procs = 65 })), {0x80, 0}} {
		if c, e := Decode(x); c != (api.Config{}) || e != api.ErrForm {
			t.Errorf("P604: % x: %v", x, e)
		}
	}
}
