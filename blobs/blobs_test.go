package blobs

import (
	"bytes"
	"math"
	"math/rand"
	"testing"

	"almanac/api"
	"almanac/codec"
	"almanac/disk"
	"almanac/geom"
	"almanac/lz"
	"almanac/segs"
)

var shape = api.Config{Sectors: 6 + 16*5, Sector: 64, Journal: 4, Segment: 5, Page: 16, Frames: 4, Procs: 4, Regions: 4, Pages: 64}

var _ Sink = (*Store)(nil)

func newStore(t testing.TB) (*Store, *disk.Disk) {
	t.Helper()
	d, e := disk.New(shape.Sectors, shape.Sector)
	if e != api.OK {
		t.Fatal(e)
	}
	s, e := New(shape, d, make([]bool, 16)...)
	if e != api.OK {
		t.Fatal(e)
	}
	return s, d
}

// noise tells n bytes that are not made shorter.
func noise(r *rand.Rand, n int) []byte {
	b := make([]byte, n)
	r.Read(b)
	return b
}

func TestNew(t *testing.T) { // P901
	d, _ := disk.New(shape.Sectors, 64)
	other, _ := disk.New(shape.Sectors, 128)
	less, _ := disk.New(shape.Sectors-1, 64)
	wrong := shape
	wrong.Procs = 0
	for i, f := range []func() (*Store, api.Errno){
		func() (*Store, api.Errno) { return New(wrong, d, make([]bool, 16)...) },
		func() (*Store, api.Errno) { return New(shape, other, make([]bool, 16)...) },
		func() (*Store, api.Errno) { return New(shape, less, make([]bool, 16)...) },
		func() (*Store, api.Errno) { return New(shape, d, make([]bool, 15)...) },
		func() (*Store, api.Errno) { return New(shape, d) },
	} {
		if s, e := f(); s != nil || e != api.ErrArg {
			t.Errorf("P901: %d: %v", i, e)
		}
	}
	full := make([]bool, 16)
	full[0], full[2] = true, true
	s, e := New(shape, d, full...)
	if e != api.OK || s.Table().State(0) != segs.Full || s.Table().State(1) != segs.Free || s.Left() != 14*5 {
		t.Error("P901: New")
	}
	if a, _ := s.Put(nil); geom.Of(shape, a.Sector) != 1 || s.Table().State(1) != segs.Open {
		t.Errorf("P901: %v", a)
	}
}

func TestPutGet(t *testing.T) { // P901 to P903
	r := rand.New(rand.NewSource(1))
	s, d := newStore(t)
	b := noise(r, 100)
	a, e := s.Put(b)
	if e != api.OK || a != (api.Addr{Sector: 6, N: 114}) || s.Left() != 78 || s.Table().Used(0) != 2 || d.Pending() != 2 {
		t.Errorf("P901: %v, %v, %d", a, e, s.Left())
	}
	want := codec.Frame(1, lz.Pack(b))
	x, _ := d.Read(6)
	y, _ := d.Read(7)
	if got := append(x, y...); !bytes.Equal(got[:114], want) || !bytes.Equal(got[114:], make([]byte, 14)) {
		t.Error("P901: what lies there")
	}
	got, e := s.Get(a)
	if e != api.OK || !bytes.Equal(got, b) {
		t.Errorf("P901: Get: %v", e)
	}
	if a, e := s.Put(noise(r, 200)); e != api.OK || geom.Of(shape, a.Sector) != 1 || s.Table().State(0) != segs.Full || s.Left() != 71 {
		t.Errorf("P901: the next segment: %v, %v", a, e)
	}
	if a, e := s.Put(noise(r, 320-13)); e != api.ErrLong || a != (api.Addr{}) {
		t.Errorf("P901: %v", e)
	}
	if _, e := s.Put(noise(r, 320-14)); e != api.OK {
		t.Errorf("P901: a whole segment: %v", e)
	}
	long := bytes.Repeat([]byte{7}, 3<<20)
	if a, e := s.Put(long); e != api.OK {
		t.Error("P901: long, but short when packed")
	} else if got, e := s.Get(a); e != api.OK || !bytes.Equal(got, long) {
		t.Errorf("P903: %v", e)
	}
	if a, e := s.Put(nil); e != api.OK || a.N != 14 {
		t.Errorf("P901: of none: %v, %v", a, e)
	} else if got, e := s.Get(a); e != api.OK || len(got) != 0 {
		t.Errorf("P903: %v", e)
	}
	for _, a := range []api.Addr{{}, {Sector: 6, N: 12}, {Sector: 5, N: 20}, {Sector: 6, N: 321}, {Sector: 10, N: 65}, {Sector: 86, N: 20}, {Sector: -1, N: 20}, {Sector: 6, N: -1}, {Sector: math.MaxInt, N: 1 << 20}, {Sector: 6, N: math.MaxInt}, {Sector: 6, N: 1<<20 + 1}} {
		if got, e := s.Get(a); e != api.ErrArg || got != nil || Right(shape, a) {
			t.Errorf("P901: %v: %v", a, e)
		}
		s.Spoil(a)
	}
	for _, a := range []api.Addr{{Sector: 6, N: 113}, {Sector: 6, N: 115}, {Sector: 7, N: 64}, {Sector: 80, N: 20}} {
		if got, e := s.Get(a); e != api.ErrCorrupt || got != nil {
			t.Errorf("P901: %v: %v", a, e)
		}
	}
	if Sectors(shape, api.Addr{N: 64}) != 1 || Sectors(shape, api.Addr{N: 65}) != 2 || Right(api.Config{}, a) {
		t.Error("Sectors, Right")
	}
	d.Cut()
	if _, e := s.Get(a); e != api.ErrDown {
		t.Errorf("P901: %v", e)
	}
	if _, e := s.Get(api.Addr{}); e != api.ErrArg {
		t.Errorf("P6: %v", e)
	}
	if _, e := s.Put(nil); e != api.ErrDown || s.Flush() != api.ErrDown || s.Seal() != api.ErrDown {
		t.Errorf("P901, P902: %v", e)
	}
}

func TestSpace(t *testing.T) { // P901
	r := rand.New(rand.NewSource(2))
	s, _ := newStore(t)
	n := 0
	for {
		if _, e := s.Put(noise(r, 100)); e != api.OK {
			if e != api.ErrSpace {
				t.Errorf("P901: %v", e)
			}
			break
		}
		n++
	}
	if n != 32 || s.Left() != 1 || s.Table().Count(segs.Open) != 1 {
		t.Errorf("P901: %d, %d", n, s.Left())
	}
	if _, e := s.Put(noise(r, 1000)); e != api.ErrLong {
		t.Errorf("P6: %v", e)
	}
	if _, e := s.Put(noise(r, 20)); e != api.OK || s.Left() != 0 {
		t.Errorf("P901: what fits: %v", e)
	}
	s.Table().Hold(3, 1)
	s.Table().Release(1)
	if a, e := s.Put(noise(r, 20)); e != api.OK || geom.Of(shape, a.Sector) != 3 || s.Left() != 4 {
		t.Errorf("P901: a segment that is free again: %v, %v", a, e)
	}
}

func TestTableIsOthersToo(t *testing.T) { // P902: the store goes on with its table
	r := rand.New(rand.NewSource(6))
	s, d := newStore(t)
	s.Put(noise(r, 20))
	s.Table().Fill(0)
	if s.Left() != 75 {
		t.Errorf("P902: Left: %d", s.Left())
	}
	s.Table().Hold(0, 1)
	s.Table().Release(1)
	d.Arm(1)
	if _, e := s.Put(noise(r, 20)); e != api.ErrDown || s.Left() != 80 {
		t.Errorf("P5: %v, %d", e, s.Left())
	}
	d.On()
	if a, e := s.Put(noise(r, 20)); e != api.OK || a.Sector != 6 || s.Left() != 79 {
		t.Errorf("P901: %v, %v", a, e)
	}
}

func TestFlushSealSpoil(t *testing.T) { // P902
	r := rand.New(rand.NewSource(3))
	s, d := newStore(t)
	a, _ := s.Put(noise(r, 100))
	if s.Flush() != api.OK || d.Pending() != 0 {
		t.Error("P902: Flush")
	}
	s.Spoil(a)
	if s.Table().Used(0) != 0 {
		t.Error("P902: Spoil")
	}
	s.Spoil(a)
	if s.Table().Used(0) != 0 || s.Left() != 78 {
		t.Error("P902: Spoil below 0")
	}
	b, _ := s.Put(noise(r, 10))
	if s.Seal() != api.OK || d.Pending() != 0 || s.Table().State(0) != segs.Full || s.Left() != 75 || s.Seal() != api.OK {
		t.Error("P902: Seal")
	}
	if c, _ := s.Put(nil); geom.Of(shape, c.Sector) != 1 {
		t.Errorf("P902: behind a Seal: %v", c)
	}
	d.Cut()
	d.On()
	if _, e := s.Get(b); e != api.OK {
		t.Errorf("P903: behind a cut: %v", e)
	}
}

func TestCutPut(t *testing.T) { // P5, P903
	r := rand.New(rand.NewSource(4))
	for n := 1; n < 5; n++ {
		s, d := newStore(t)
		kept, _ := s.Put(noise(r, 100))
		s.Flush()
		d.Arm(n, true, false, true, true)
		if _, e := s.Put(noise(r, 240)); e != api.ErrDown {
			t.Fatalf("P901: %v", e)
		}
		if s.Left() != 78 || s.Table().State(1) != segs.Free || s.Table().Used(0) != 2 {
			t.Error("P5: a cut Put changed something")
		}
		d.On()
		if _, e := s.Get(kept); e != api.OK {
			t.Errorf("P903: %v", e)
		}
		b := noise(r, 100)
		if a, e := s.Put(b); e != api.OK || a.Sector != 8 {
			t.Errorf("P903: %v, %v", a, e)
		} else if got, _ := s.Get(a); !bytes.Equal(got, b) {
			t.Error("P903")
		}
	}
}

func TestBurst(t *testing.T) { // P904
	r := rand.New(rand.NewSource(5))
	s, d := newStore(t)
	b := noise(r, 200)
	a, _ := s.Put(b)
	for sector := range Sectors(shape, a) {
		for bit := range 512 {
			p := r.Uint32() | 1
			d.Burst(a.Sector+sector, bit, p)
			if got, e := s.Get(a); e != api.ErrCorrupt && !bytes.Equal(got, b) {
				t.Fatalf("P904: %d, %d: %v", sector, bit, e)
			}
			d.Burst(a.Sector+sector, bit, p)
		}
	}
	if _, e := s.Get(a); e != api.OK {
		t.Error(e)
	}
}

func TestOtherFrames(t *testing.T) { // P901, P904: frames that are no blobs
	s, d := newStore(t)
	for i, f := range [][]byte{codec.Frame(2, lz.Pack([]byte("x"))), codec.Frame(1, nil), codec.Frame(1, []byte{9, 9}), codec.Frame(1, []byte{1, 4, 7})} {
		d.Write(6, append(bytes.Clone(f), make([]byte, 64-len(f))...))
		if b, e := s.Get(api.Addr{Sector: 6, N: len(f)}); e != api.ErrCorrupt || b != nil {
			t.Errorf("P904: %d: %v", i, e)
		}
	}
}
