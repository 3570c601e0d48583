package boot

import (
	"errors"
	"math/rand"
	"testing"

	"almanac/api"
	"almanac/ckpt"
	"almanac/disk"
	"almanac/geom"
	"almanac/ring"
	"almanac/super"
)

var shape = api.Config{Sectors: 6 + 20*8, Sector: 64, Journal: 4, Segment: 8, Page: 16, Frames: 4, Procs: 4, Regions: 4, Pages: 64}

func newDisk(t testing.TB) *disk.Disk {
	t.Helper()
	d, e := disk.New(shape.Sectors, shape.Sector)
	if e != api.OK {
		t.Fatal(e)
	}
	return d
}

// fails tells whether an error is a Failure of a number and a step.
func fails(err error, e api.Errno, step string) bool {
	var f *Failure
	return errors.As(err, &f) && f.Err == e && f.Step == step && errors.Is(err, e) && err.Error() == e.Error()+" at "+step
}

func full(t testing.TB, m *ckpt.Manager) api.Errno {
	t.Helper()
	m.Begin()
	for {
		more, e := m.Step()
		if e != api.OK {
			return e
		}
		if !more {
			return m.Commit()
		}
	}
}

// fill stores a number, which value tells again.
func fill(m *ckpt.Manager, v byte) api.Errno {
	m.Do(api.Op{Kind: api.OMake})
	m.Do(api.Op{Kind: api.OMap, N: 3, Prot: 3})
	return m.Do(api.Op{Kind: api.OStore, At: 14, Data: []byte{v, v, v, v}}).Err
}

func value(m *ckpt.Manager) int {
	a := m.Do(api.Op{Kind: api.OLoad, At: 14, N: 4})
	if a.Err == api.ErrNone {
		return -1
	}
	if a.Err != api.OK || a.Data[0] != a.Data[3] {
		return -2
	}
	return int(a.Data[0])
}

func TestFormat(t *testing.T) { // P2301
	d := newDisk(t)
	wrong := shape
	wrong.Regions = 33
	other := shape
	other.Sectors--
	for _, c := range []api.Config{wrong, other, {}} {
		if m, err := Format(c, d); m != nil || !fails(err, api.ErrArg, "config") {
			t.Errorf("P2301: %v", err)
		}
	}
	d.Cut()
	if m, err := Format(shape, d); m != nil || !fails(err, api.ErrDown, "write") {
		t.Errorf("P2301: %v", err)
	}
	if m, err := Format(wrong, d); m != nil || !fails(err, api.ErrArg, "config") {
		t.Errorf("P6: %v", err)
	}
	d.On()
	m, err := Format(shape, d)
	if err != nil || m.Epoch() != 1 || m.Live().Weight() != 0 || m.Begun() {
		t.Fatalf("P2301: %v", err)
	}
	d.Cut()
	d.On()
	if m, err = Recover(d); err != nil || m.Epoch() != 1 || value(m) != -1 {
		t.Fatalf("P2302: %v", err)
	}
	if b, err := Peek(d); err != nil || b.Epoch != 1 || b.Root != (api.Addr{}) || b.Config != shape {
		t.Errorf("P2302: %v, %v", b, err)
	}
}

func TestFormatCut(t *testing.T) { // P2301
	for seed := range int64(400) {
		r := rand.New(rand.NewSource(seed))
		d := newDisk(t)
		m, _ := Format(shape, d)
		epochs := 1 + r.Intn(4)
		for range epochs {
			fill(m, 7)
			full(t, m)
		}
		if r.Intn(3) == 0 {
			d.Arm(2, true)
			fill(m, 7)
			full(t, m)
			d.On()
		}
		m, err := Recover(d)
		if err != nil {
			t.Fatal(err)
		}
		was := m.Epoch()
		c := shape
		c.Frames = 9
		n := 1 + r.Intn(8)
		d.Arm(n, r.Intn(2) == 0, r.Intn(2) == 0, r.Intn(2) == 0)
		_, err = Format(c, d)
		if err != nil && !fails(err, api.ErrDown, "write") {
			t.Fatalf("P2301: %v", err)
		}
		down := err != nil
		d.On()
		m, err = Recover(d)
		switch {
		case err != nil && down && errors.Is(err, api.ErrCorrupt):
		case err == nil && down && m.Epoch() == was && value(m) == 7:
		case err == nil && m.Epoch() == 1 && value(m) == -1:
		default:
			t.Fatalf("P2301: seed %d, write %d: %v", seed, n, err)
		}
	}
}

func TestRecoverErrors(t *testing.T) { // P2302
	d := newDisk(t)
	if m, err := Recover(d); m != nil || !fails(err, api.ErrCorrupt, "super") {
		t.Errorf("P2302: %v", err)
	}
	if b, err := Peek(d); b != (super.Block{}) || !fails(err, api.ErrCorrupt, "super") {
		t.Errorf("P2302: %v", err)
	}
	m, _ := Format(shape, d)
	fill(m, 3)
	full(t, m)
	b, _ := Peek(d)
	good := d.Bytes()
	try := func(step string, peek bool, sectors ...int) {
		t.Helper()
		x, _ := disk.Of(good, 64)
		for _, s := range sectors {
			x.Burst(s, 33, 0x101)
		}
		if m, err := Recover(x); m != nil || !fails(err, api.ErrCorrupt, step) {
			t.Errorf("P2302: %v; want %s", err, step)
		}
		if _, err := Peek(x); (err == nil) != peek || err != nil && !fails(err, api.ErrCorrupt, step) {
			t.Errorf("P2302: %v; want %s", err, step)
		}
	}
	try("super", false, 0, 1)
	try("image", true, b.Root.Sector)
	for s := 6; s < shape.Sectors; s++ {
		x, _ := disk.Of(good, 64)
		x.Burst(s, 33, 0x101)
		if m, err := Recover(x); err == nil && value(m) != 3 || err != nil && !fails(err, api.ErrCorrupt, "image") {
			t.Errorf("P2302: sector %d: %v", s, err)
		}
	}
	try("ring", false, 2)
	x, _ := disk.Of(good, 64)
	x.Burst(2, 1, 1)
	x.Burst(b.Root.Sector, 1, 1)
	if _, err := Recover(x); !fails(err, api.ErrCorrupt, "image") {
		t.Errorf("P6: %v", err)
	}
	d.Cut()
	if m, err := Recover(d); m != nil || !errors.Is(err, api.ErrDown) {
		t.Errorf("P2302: %v", err)
	}
	if _, err := Peek(d); !errors.Is(err, api.ErrDown) {
		t.Errorf("P2302: %v", err)
	}
}

func TestBursts(t *testing.T) { // P2302: a burst does not bring an elder epoch back
	r := rand.New(rand.NewSource(1))
	d := newDisk(t)
	m, _ := Format(shape, d)
	for v := range 6 {
		fill(m, byte(v))
		full(t, m)
		if v%2 == 1 {
			m.Clean(1)
		}
		for s := range 6 {
			for bit := range 512 {
				x, _ := disk.Of(d.Bytes(), 64)
				x.Burst(s, bit, r.Uint32()|1)
				m, err := Recover(x)
				if err == nil && (value(m) != v || m.Epoch() != uint64(v+2)) || err != nil && !errors.Is(err, api.ErrCorrupt) {
					t.Fatalf("P2302: sector %d, bit %d: %v", s, bit, err)
				}
				if b, err := Peek(x); err == nil && b.Epoch != uint64(v+2) {
					t.Fatalf("P2302: Peek: %d", b.Epoch)
				}
				if s < 2 && err != nil {
					t.Fatalf("P2302: the other superblock, and the journal: %v", err)
				}
			}
		}
	}
}

func TestCuts(t *testing.T) { // P2303: cuts in commits, in cleaning, in recovery
	for seed := range int64(500) {
		r := rand.New(rand.NewSource(seed))
		d := newDisk(t)
		m, _ := Format(shape, d)
		fill(m, 1)
		full(t, m)
		v, next, epoch := 1, 1, m.Epoch()
		for n := range 12 {
			next = n + 2
			keep := make([]bool, 12)
			for i := range keep {
				keep[i] = r.Intn(2) == 0
			}
			if r.Intn(2) == 0 {
				d.Arm(1+r.Intn(14), keep...)
			}
			e := fill(m, byte(next))
			begun := e == api.OK
			if begun {
				e = full(t, m)
			}
			if e == api.OK {
				v, epoch = next, epoch+1
				e = m.Clean(1)
			}
			if !d.Off() {
				d.Cut(keep...)
			}
			d.On()
			if e != api.OK && e != api.ErrDown {
				t.Fatalf("%v", e)
			}
			var err error
			for range 4 { // a recovery that is cut is done again
				d.Arm(1+r.Intn(4), keep...)
				if r.Intn(3) == 0 {
					d.Cut()
					d.On()
				}
				reads := d.Reads()
				m, err = Recover(d)
				if d.Reads()-reads > Bound(d) {
					t.Fatal("P2303: Bound")
				}
				if err == nil {
					break
				}
				if !errors.Is(err, api.ErrDown) {
					t.Fatalf("P2303: seed %d: %v", seed, err)
				}
				d.On()
			}
			if err != nil {
				d.Cut()
				d.On()
				m, err = Recover(d)
			}
			d.Arm(1 << 30)
			if err != nil {
				t.Fatalf("P2303: seed %d: %v", seed, err)
			}
			got := value(m)
			if got == next && m.Epoch() == epoch+1 && begun {
				v, epoch = next, epoch+1
			}
			if got != v || m.Epoch() != epoch {
				t.Fatalf("P2303: seed %d: %d of epoch %d; want %d of %d", seed, got, m.Epoch(), v, epoch)
			}
			at, size := geom.Journal(shape)
			if _, l, err := ring.Open(d, at, size); err != nil || len(l) == 0 {
				t.Fatalf("P2302: the journal: %v", err)
			}
		}
	}
}

func TestAnyBytes(t *testing.T) { // P2303
	d := newDisk(t)
	m, _ := Format(shape, d)
	fill(m, 1)
	full(t, m)
	good := d.Bytes()
	for seed := range int64(3000) {
		r := rand.New(rand.NewSource(seed))
		b := append([]byte(nil), good...)
		for range 1 + r.Intn(5) {
			if r.Intn(3) == 0 { // a sector at another place
				x, y := r.Intn(shape.Sectors), r.Intn(shape.Sectors)
				copy(b[x*64:x*64+64], good[y*64:y*64+64])
			} else {
				b[r.Intn(len(b))] = byte(r.Intn(256))
			}
		}
		x, _ := disk.Of(b, 64)
		m, err := Recover(x)
		if err != nil && !errors.Is(err, api.ErrCorrupt) || (m == nil) == (err == nil) || x.Reads() > Bound(x) {
			t.Fatalf("P2303: %v", err)
		}
		if err == nil {
			fill(m, 9)
			full(t, m)
			m.Clean(1)
		}
	}
	one, _ := disk.New(1, 64)
	if _, err := Recover(one); !fails(err, api.ErrCorrupt, "super") || Bound(one) < 2 {
		t.Errorf("P2303: %v", err)
	}
	if _, err := Format(shape, one); !fails(err, api.ErrArg, "config") {
		t.Errorf("P2301: %v", err)
	}
}
