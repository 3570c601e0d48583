package space

import (
	"bytes"
	"math"
	"math/rand"
	"slices"
	"testing"

	"almanac/api"
	"almanac/pager"
	"almanac/region"
)

var shape = api.Config{Page: 16, Procs: 4, Regions: 3, Pages: 12}

// mem is a sink in memory.
type mem struct {
	blobs [][]byte
	putE  api.Errno
}

func (m *mem) Put(b []byte) (api.Addr, api.Errno) {
	if m.putE != api.OK {
		return api.Addr{}, m.putE
	}
	m.blobs = append(m.blobs, b)
	return api.Addr{Sector: len(m.blobs), N: len(b)}, api.OK
}

func (m *mem) Get(a api.Addr) ([]byte, api.Errno) {
	if a.Sector < 1 || a.Sector > len(m.blobs) {
		return nil, api.ErrCorrupt
	}
	return m.blobs[a.Sector-1], api.OK
}

func newPager(t *testing.T, held int) (*pager.Pager, *mem) {
	t.Helper()
	m := &mem{}
	p, e := pager.New(16, held, m)
	if e != api.OK {
		t.Fatal(e)
	}
	return p, m
}

func TestOf(t *testing.T) { // P1601
	p, _ := newPager(t, 4)
	a, b := p.Make(), p.Make()
	l := []api.Region{{Lo: 0, Hi: 2, Prot: 3}, {Lo: 5, Hi: 12, Prot: 1}}
	bad := []struct {
		l     []api.Region
		slots []Slot
	}{
		{[]api.Region{{Lo: 0, Hi: 13}}, nil},
		{[]api.Region{{Lo: 3, Hi: 2}}, nil},
		{[]api.Region{{Lo: 0, Hi: 1}, {Lo: 2, Hi: 3}, {Lo: 4, Hi: 5}, {Lo: 6, Hi: 7}}, nil},
		{l, []Slot{{Page: 1, Id: a}, {Page: 0, Id: b}}},
		{l, []Slot{{Page: 1, Id: a}, {Page: 1, Id: b}}},
		{l, []Slot{{Page: 2, Id: a}}},
		{l, []Slot{{Page: -1, Id: a}}},
		{l, []Slot{{Page: 0, Id: 99}}},
		{l, []Slot{{Page: 0, Id: 0}}},
	}
	for _, c := range bad {
		if s, e := Of(shape, p, c.l, c.slots...); s != nil || e != api.ErrForm {
			t.Errorf("P1601: %v: %v", c, e)
		}
	}
	in := slices.Clone(l)
	s, e := Of(shape, p, in, Slot{0, a}, Slot{11, b})
	in[0].Prot = 0
	if e != api.OK || !slices.Equal(s.Regions(), l) || !slices.Equal(s.Slots(), []Slot{{0, a}, {11, b}}) || s.Weight() != 4 {
		t.Errorf("P1601: %v, %v", s.Regions(), s.Slots())
	}
	s.Regions()[0].Prot = 0
	s.Slots()[0].Id = 0
	if !slices.Equal(s.Regions(), l) || s.Slots()[0].Id != a {
		t.Error("P2: shared")
	}
	other, _ := Of(shape, p, l, Slot{0, a})
	s.Store(3, []byte("x"))
	if got, _ := other.Load(3, 1); got[0] != 0 || p.Pages() != 3 {
		t.Error("P1604: spaces made apart have the same page")
	}
	other.Store(3, []byte("y"))
	if got, _ := p.Read(a, 3, 1); got[0] != 'y' || p.Pages() != 3 {
		t.Error("P1601: a page that nobody else has")
	}
	other.Close()
	s.Close()
	if p.Pages() != 0 || s.Weight() != 0 || len(s.Regions()) != 0 || len(s.Slots()) != 0 {
		t.Errorf("P1603: Close leaves %d pages", p.Pages())
	}
}

func TestErrors(t *testing.T) { // P1602, P1603
	p, m := newPager(t, 1)
	s := New(shape, p)
	if s.Weight() != 0 || len(s.Regions()) != 0 || len(s.Slots()) != 0 {
		t.Error("P1601: New")
	}
	for _, c := range [][2]int{{0, 0}, {-1, 1}, {0, 13}, {12, 1}, {0, -1}, {13, 1}, {math.MaxInt, math.MaxInt}, {1, math.MaxInt}} {
		if s.Map(c[0], c[1], 3) != api.ErrArg || s.Unmap(c[0], c[1]) != api.ErrArg || s.Protect(c[0], c[1], 3) != api.ErrArg {
			t.Errorf("P1602: %v", c)
		}
	}
	if s.Map(0, 1, 4) != api.ErrArg || s.Map(0, 1, -1) != api.ErrArg || s.Protect(0, 1, 4) != api.ErrArg {
		t.Error("P1602: prot")
	}
	if s.Map(0, 12, 3) != api.OK || s.Map(11, 1, 3) != api.ErrUsed || s.Unmap(3, 1) != api.OK || s.Protect(2, 2, 1) != api.ErrNone {
		t.Error("P1602: Map, Unmap, Protect")
	}
	if s.Unmap(3, 1) != api.OK || s.Unmap(1, 1) != api.OK || s.Unmap(5, 1) != api.ErrMem || s.Protect(5, 1, 1) != api.ErrMem || s.Map(1, 1, 1) != api.ErrMem {
		t.Errorf("P1602: ErrMem: %v", s.Regions())
	}
	if s.Map(3, 1, 4) != api.ErrArg || s.Protect(0, 12, 1) != api.ErrNone || s.Protect(4, 8, 1) != api.OK || s.Map(3, 1, 3) != api.OK {
		t.Errorf("P1602: %v", s.Regions())
	}
	want := []api.Region{{Lo: 0, Hi: 1, Prot: 3}, {Lo: 2, Hi: 4, Prot: 3}, {Lo: 4, Hi: 12, Prot: 1}}
	if !slices.Equal(s.Regions(), want) {
		t.Errorf("P1602: %v", s.Regions())
	}
	for _, c := range [][2]int{{0, -1}, {-1, 0}, {-1, 4}, {0, 12*16 + 1}, {192, 1}, {193, 0}, {0, 1<<20 + 1}, {math.MaxInt, 1}, {1, math.MaxInt}} {
		if b, e := s.Load(c[0], c[1]); b != nil || e != api.ErrArg {
			t.Errorf("P1603: %v: %v", c, e)
		}
	}
	if s.Store(-1, nil) != api.ErrArg || s.Store(193, nil) != api.ErrArg || s.Store(192, []byte{1}) != api.ErrArg || s.Store(0, make([]byte, 1<<20+1)) != api.ErrArg {
		t.Error("P1603: Store")
	}
	if b, e := s.Load(192, 0); len(b) != 0 || e != api.OK || s.Store(20, nil) != api.OK || len(s.Slots()) != 0 {
		t.Errorf("P1603: none: %v", e)
	}
	if _, e := s.Load(15, 2); e != api.ErrFault || s.Store(15, []byte{1, 2}) != api.ErrFault || s.Store(63, []byte{1, 2}) != api.ErrFault {
		t.Errorf("P1603: %v", e)
	}
	s.Store(0, []byte("old"))
	m.putE = api.ErrSpace
	if e := s.Store(40, []byte("over the end")); e != api.ErrSpace || len(s.Slots()) != 1 || p.Pages() != 1 {
		t.Errorf("P1603: nothing was stored: %v", e)
	}
	if b, e := s.Load(0, 3); string(b) != "old" || e != api.OK {
		t.Errorf("P1603: %v", e)
	}
	m.putE = api.OK
	if s.Store(40, []byte("over the end")) != api.OK || len(s.Slots()) != 3 || s.Weight() != 6 {
		t.Errorf("P1603: %v", s.Slots())
	}
	m.putE = api.ErrDown
	if s.Store(0, []byte("new")) != api.ErrDown {
		t.Error("P1603: the pager's errors")
	}
	if _, e := s.Load(0, 64); e == api.OK {
		t.Error("P1603")
	}
	m.putE = api.OK
	s.Protect(2, 2, 2)
	if _, e := s.Load(40, 1); e != api.ErrFault {
		t.Errorf("P1603: it may not be read: %v", e)
	}
	zero := New(api.Config{}, p)
	if zero.Map(0, 1, 1) != api.ErrArg || zero.Store(0, []byte{1}) != api.ErrArg || zero.Fork().Weight() != 0 {
		t.Error("P8")
	}
}

// plain is a space, page by page.
type plain struct {
	prot  [12]int // -1: in no region
	bytes [192]byte
	slots [12]bool
}

func (x *plain) may(at, n, way int) bool {
	for i := at; i < at+n; i++ {
		if x.prot[i/16] < 0 || x.prot[i/16]&way == 0 {
			return false
		}
	}
	return true
}

func TestAlways(t *testing.T) { // P1602 to P1604
	wide := shape
	wide.Regions = 12
	for seed := range int64(150) {
		r := rand.New(rand.NewSource(seed))
		p, m := newPager(t, 1+r.Intn(4))
		first := &plain{}
		for i := range first.prot {
			first.prot[i] = -1
		}
		spaces, plains := []*Space{New(wide, p)}, []*plain{first}
		for range 300 {
			k := r.Intn(len(spaces))
			s, x := spaces[k], plains[k]
			m.putE = api.OK
			if r.Intn(5) == 0 {
				m.putE = api.ErrSpace
			}
			at, n, prot := r.Intn(12), 1+r.Intn(4), r.Intn(4)
			n = min(n, 12-at)
			switch r.Intn(9) {
			case 0, 1:
				if s.Map(at, n, prot) == api.OK {
					for i := at; i < at+n; i++ {
						x.prot[i] = prot
					}
				}
			case 2:
				if s.Unmap(at, n) == api.OK {
					for i := at; i < at+n; i++ {
						x.prot[i], x.slots[i] = -1, false
						copy(x.bytes[i*16:i*16+16], make([]byte, 16))
					}
				}
			case 3:
				if s.Protect(at, n, 3) == api.OK {
					for i := at; i < at+n; i++ {
						x.prot[i] = 3
					}
				}
			case 4, 5:
				at := r.Intn(192)
				b := make([]byte, r.Intn(min(192-at, 50)))
				for i := range b {
					b[i] = byte(r.Intn(3))
				}
				e := s.Store(at, b)
				if (e != api.ErrFault) != x.may(at, len(b), 2) || e == api.ErrSpace && m.putE == api.OK {
					t.Fatalf("P1603: Store: %v", e)
				}
				if e == api.OK {
					copy(x.bytes[at:], b)
					for i := at; i < at+len(b); i++ {
						x.slots[i/16] = true
					}
				}
			case 6:
				if len(spaces) < 5 {
					twin := *x
					spaces, plains = append(spaces, s.Fork()), append(plains, &twin)
				}
			case 7:
				p.Evict(r.Intn(4))
			case 8:
				if len(spaces) > 1 {
					s.Close()
					spaces, plains = slices.Delete(spaces, k, k+1), slices.Delete(plains, k, k+1)
				}
			}
			m.putE = api.OK
			ids := map[int]int{}
			for k, s := range spaces {
				x := plains[k]
				at := r.Intn(192)
				n := r.Intn(192 - at)
				b, e := s.Load(at, n)
				if (e == api.OK) != x.may(at, n, 1) || e == api.OK && !bytes.Equal(b, x.bytes[at:at+n]) {
					t.Fatalf("P1604: seed %d: Load: %v", seed, e)
				}
				slots := 0
				for _, y := range s.Slots() {
					ids[y.Id]++
					if !x.slots[y.Page] {
						t.Fatal("P1601: Slots")
					}
					slots++
				}
				for i, has := range x.slots {
					if has {
						slots--
					}
					if _, ok := region.Find(s.Regions(), i); ok != (x.prot[i] >= 0) {
						t.Fatal("P1601: Regions")
					}
				}
				if slots != 0 || s.Weight() != len(s.Slots())+len(s.Regions()) {
					t.Fatal("P1601: Slots, Weight")
				}
			}
			if len(ids) != p.Pages() {
				t.Fatalf("P1603: the pager has %d pages, spaces %d", p.Pages(), len(ids))
			}
		}
	}
}

func TestForkShares(t *testing.T) { // P1603
	p, _ := newPager(t, 4)
	s := New(shape, p)
	s.Map(0, 4, 3)
	s.Store(0, make([]byte, 64))
	f := s.Fork()
	if p.Pages() != 4 || !slices.Equal(s.Slots(), f.Slots()) {
		t.Error("P1603: Fork shares all pages")
	}
	s.Store(0, []byte{1})
	if p.Pages() != 5 {
		t.Error("P1603: a page is copied")
	}
	f.Store(0, []byte{2})
	if p.Pages() != 5 {
		t.Error("P1603: nobody else has it any more")
	}
	f.Close()
	if p.Pages() != 4 {
		t.Error("P1603: Close")
	}
}
