package ring

import (
	"bytes"
	"errors"
	"math"
	"math/rand"
	"testing"

	"almanac/api"
	"almanac/disk"
)

func disk16(t testing.TB) *disk.Disk {
	d, e := disk.New(16, 64)
	if e != api.OK {
		t.Fatal(e)
	}
	return d
}

// same tells whether Open tells these records.
func same(t testing.TB, d *disk.Disk, at, n int, want [][]byte) bool {
	t.Helper()
	_, got, err := Open(d, at, n)
	if err != nil || len(got) != len(want) {
		return false
	}
	for i := range got {
		if !bytes.Equal(got[i], want[i]) {
			return false
		}
	}
	return true
}

func TestFormatOpen(t *testing.T) { // P801
	d := disk16(t)
	for _, c := range [][2]int{{0, 3}, {0, 17}, {13, 4}, {-1, 4}, {math.MaxInt, 4}, {2, math.MaxInt}, {0, -1}, {math.MinInt, math.MinInt}} {
		r, err := Format(d, c[0], c[1])
		if r != nil || !errors.Is(err, api.ErrArg) || err == error(api.ErrArg) {
			t.Errorf("P801: Format of %v: %v", c, err)
		}
		r, l, err := Open(d, c[0], c[1])
		if r != nil || l != nil || !errors.Is(err, api.ErrArg) {
			t.Errorf("P801: Open of %v: %v", c, err)
		}
	}
	if _, _, err := Open(d, 3, 9); !errors.Is(err, api.ErrCorrupt) {
		t.Errorf("P801: no journal: %v", err)
	}
	d.Cut()
	if _, err := Format(d, 3, 9); !errors.Is(err, api.ErrDown) {
		t.Errorf("P801: %v", err)
	}
	if _, _, err := Open(d, 3, 9); !errors.Is(err, api.ErrDown) {
		t.Errorf("P801: %v", err)
	}
	d.On()
	r, err := Format(d, 3, 9)
	if err != nil || r.First() != 1 || r.Next() != 1 || r.Room() < 6*32 {
		t.Fatalf("P801: %v", err)
	}
	d.Cut() // what Format made is kept
	d.On()
	if !same(t, d, 3, 9, nil) {
		t.Error("P801: Open of none")
	}
	for k, b := range [][]byte{d.Bytes()[:3*64], d.Bytes()[12*64:]} {
		if !bytes.Equal(b, make([]byte, len(b))) {
			t.Errorf("it touches other sectors: %d", k)
		}
	}
}

func TestAppendTruncate(t *testing.T) { // P802
	d := disk16(t)
	r, _ := Format(d, 2, 4)
	if r.Room() < 32 {
		t.Errorf("P802: Room %d", r.Room())
	}
	if _, e := r.Append(make([]byte, r.Room()+1)); e != api.ErrFull {
		t.Errorf("P802: %v", e)
	}
	rec := []byte("one")
	if k, e := r.Append(rec); k != 1 || e != api.OK {
		t.Errorf("P802: %d, %v", k, e)
	}
	rec[0] = 'x'
	d.Cut()
	if r.Truncate(2) != api.ErrArg || r.Truncate(math.MaxUint64) != api.ErrArg || r.Truncate(0) != api.ErrDown {
		t.Error("P802: Truncate")
	}
	if _, e := r.Append(nil); e != api.ErrDown {
		t.Errorf("P802: %v", e)
	}
	if _, e := r.Append(make([]byte, 999)); e != api.ErrFull {
		t.Errorf("P6: %v", e)
	}
	d.On()
	if k, e := r.Append(nil); k != 2 || e != api.OK || r.Room() != -1 {
		t.Errorf("P802: %d, %v, %d", k, e, r.Room())
	}
	if _, e := r.Append(nil); e != api.ErrFull {
		t.Errorf("P802: %v", e)
	}
	if !same(t, d, 2, 4, [][]byte{[]byte("one"), nil}) {
		t.Error("P801: records")
	}
	if r.Truncate(1) != api.OK || r.First() != 2 || r.Next() != 3 || r.Truncate(1) != api.OK || r.Truncate(0) != api.OK {
		t.Error("P802: Truncate")
	}
	if k, e := r.Append([]byte("three")); k != 3 || e != api.OK {
		t.Errorf("P802: %d, %v", k, e)
	}
	d.Cut()
	d.On()
	if !same(t, d, 2, 4, [][]byte{nil, []byte("three")}) {
		t.Error("P803: kept")
	}
	r, _, _ = Open(d, 2, 4)
	if r.Truncate(3) != api.OK || r.First() != 4 || r.Next() != 4 || !same(t, d, 2, 4, nil) {
		t.Error("P802: all are gone")
	}
	if k, e := r.Append(make([]byte, r.Room())); k != 4 || e != api.OK {
		t.Errorf("P802: %d, %v", k, e)
	}
	r, err := Format(d, 2, 4)
	if err != nil || r.Next() != 1 || !same(t, d, 2, 4, nil) {
		t.Error("P801: Format of a journal")
	}
}

func TestSizes(t *testing.T) { // P802: each record takes the sectors that its bytes need, and one more, at most
	for size := range 200 {
		d := disk16(t)
		r, _ := Format(d, 0, 16)
		each := (size+31)/32 + 1
		n := 0
		for {
			if _, e := r.Append(make([]byte, size)); e != api.OK {
				break
			}
			n++
		}
		if n < 14/each {
			t.Errorf("P802: %d records of %d bytes", n, size)
		}
	}
}

// step does something to a journal, and tells the records that it has then, if it is OK.
func step(r *rand.Rand, g *Ring, recs [][]byte) (next [][]byte, e api.Errno) {
	next = append(next, recs...)
	switch {
	case r.Intn(3) > 0 && g.Room() >= 0:
		b := make([]byte, r.Intn(g.Room()+1))
		if r.Intn(2) == 0 {
			b = make([]byte, r.Intn(min(40, g.Room()+1)))
		}
		r.Read(b)
		_, e = g.Append(b)
		return append(next, b), e
	case len(recs) > 0:
		n := 1 + r.Intn(len(recs))
		return next[n:], g.Truncate(g.First() + uint64(n) - 1)
	}
	return next, api.OK
}

func TestCuts(t *testing.T) { // P803
	for seed := range int64(3000) {
		r := rand.New(rand.NewSource(seed))
		n := 4 + r.Intn(6)
		d := disk16(t)
		g, _ := Format(d, 3, n)
		var recs [][]byte
		for range 12 {
			if r.Intn(4) == 0 {
				keep := make([]bool, 6)
				for i := range keep {
					keep[i] = r.Intn(2) == 0
				}
				d.Arm(1+r.Intn(3), keep...)
			}
			next, e := step(r, g, recs)
			if e == api.OK {
				recs = next
			} else if e != api.ErrDown {
				t.Fatalf("P802: %v", e)
			}
			if !d.Off() {
				continue
			}
			d.On()
			if !same(t, d, 3, n, recs) {
				if recs = next; !same(t, d, 3, n, recs) {
					t.Fatalf("P803: seed %d: neither all nor nothing", seed)
				}
				g, _, _ = Open(d, 3, n)
			} else if r.Intn(2) == 0 {
				g, _, _ = Open(d, 3, n)
			}
		}
		if !same(t, d, 3, n, recs) {
			t.Fatalf("P803: seed %d: other records", seed)
		}
	}
}

func TestFormatCut(t *testing.T) { // P803
	for seed := range int64(600) {
		r := rand.New(rand.NewSource(seed))
		d := disk16(t)
		var recs [][]byte
		was := seed%3 != 0
		if was {
			g, _ := Format(d, 0, 8)
			for range 8 {
				recs, _ = step(r, g, recs)
			}
		}
		if seed%3 == 2 {
			d.Burst(r.Intn(8), r.Intn(512), 1)
			was = same(t, d, 0, 8, recs)
		}
		keep := []bool{r.Intn(2) == 0, r.Intn(2) == 0, r.Intn(2) == 0}
		d.Arm(1+r.Intn(2), keep...)
		_, err := Format(d, 0, 8)
		d.On()
		_, _, open := Open(d, 0, 8)
		switch {
		case same(t, d, 0, 8, nil):
		case err == nil, was && !same(t, d, 0, 8, recs), !was && !errors.Is(open, api.ErrCorrupt):
			t.Fatalf("P803: seed %d: %v, %v", seed, err, open)
		}
	}
}

func TestBurst(t *testing.T) { // P804
	r := rand.New(rand.NewSource(8))
	d := disk16(t)
	g, _ := Format(d, 2, 9)
	var recs [][]byte
	for range 40 {
		recs, _ = step(r, g, recs)
	}
	b := d.Bytes()
	for sector := 2; sector < 11; sector++ {
		for bit := range 512 {
			x, _ := disk.Of(b, 64)
			x.Burst(sector, bit, 1|r.Uint32())
			if _, _, err := Open(x, 2, 9); !errors.Is(err, api.ErrCorrupt) && !same(t, x, 2, 9, recs) {
				t.Fatalf("P804: sector %d, bit %d: %v", sector, bit, err)
			}
		}
	}
}

func FuzzOpen(f *testing.F) { // P803: of any bytes it ends
	d := disk16(f)
	g, _ := Format(d, 0, 8)
	g.Append(make([]byte, 100))
	f.Add(d.Bytes()[:512])
	f.Add(bytes.Repeat(head{1, 1, 5, 3, 4}.encode(64), 8))
	f.Add(append(append(head{2, 1, 9, 3, 6}.encode(64), head{3, 1, 2, 3, 6}.encode(64)...), bytes.Repeat(part{1, 1 << 31, 0}.encode(nil, 64), 6)...))
	f.Fuzz(func(t *testing.T, b []byte) {
		d, e := disk.Of(b, 64)
		if e != api.OK {
			return
		}
		n, _ := d.Shape()
		if _, _, err := Open(d, 0, n); err != nil && !errors.Is(err, api.ErrCorrupt) && n >= 4 {
			t.Error(err)
		}
	})
}
