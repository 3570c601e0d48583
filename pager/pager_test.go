package pager

import (
	"bytes"
	"math"
	"math/rand"
	"testing"

	"almanac/api"
)

// mem is a sink in memory.
type mem struct {
	blobs    [][]byte
	gets     int
	putE     api.Errno
	getE     api.Errno
	tooShort bool
}

func (m *mem) Put(b []byte) (api.Addr, api.Errno) {
	if m.putE != api.OK {
		return api.Addr{}, m.putE
	}
	m.blobs = append(m.blobs, b)
	return api.Addr{Sector: len(m.blobs), N: len(b)}, api.OK
}

func (m *mem) Get(a api.Addr) ([]byte, api.Errno) {
	m.gets++
	if m.getE != api.OK {
		return nil, m.getE
	}
	if a.Sector < 1 || a.Sector > len(m.blobs) {
		return nil, api.ErrNone
	}
	b := m.blobs[a.Sector-1]
	if m.tooShort {
		b = b[1:]
	}
	return b, api.OK
}

func newPager(t *testing.T, held int) (*Pager, *mem) {
	t.Helper()
	m := &mem{}
	p, e := New(16, held, m)
	if e != api.OK {
		t.Fatal(e)
	}
	return p, m
}

func TestNew(t *testing.T) { // P1401
	for _, c := range [][2]int{{15, 1}, {4097, 1}, {16, 0}, {16, 4097}, {-1, -1}, {16, math.MinInt}} {
		if p, e := New(c[0], c[1], &mem{}); p != nil || e != api.ErrArg {
			t.Errorf("P1401: %v: %v", c, e)
		}
	}
	p, m := newPager(t, 2)
	if p.Make() != 1 || p.Make() != 2 || p.Bring(api.Addr{Sector: 9}) != 3 || p.Pages() != 3 || p.Held() != 0 || m.gets != 0 {
		t.Error("P1401: Make, Bring")
	}
	if b, e := p.Read(1, 0, 16); !bytes.Equal(b, make([]byte, 16)) || e != api.OK {
		t.Errorf("P1401: %v", e)
	}
	if _, e := p.Read(3, 0, 1); e != api.ErrNone || m.gets != 1 {
		t.Errorf("P1402: the sink's: %v", e)
	}
}

func TestErrors(t *testing.T) { // P1402, P1403
	p, m := newPager(t, 1)
	id := p.Make()
	for _, x := range []int{0, -1, 2, math.MaxInt} {
		if _, e := p.Read(x, -1, 0); e != api.ErrNone {
			t.Errorf("P1402: %v", e)
		}
		if e := p.Write(x, -1, nil); e != api.ErrNone {
			t.Errorf("P1402: %v", e)
		}
		if n, e := p.Copy(x); n != 0 || e != api.ErrNone {
			t.Errorf("P1402: %v", e)
		}
		if a, e := p.Save(x); a != (api.Addr{}) || e != api.ErrNone || p.Drop(x) != api.ErrNone || p.Move(x, api.Addr{}) != api.ErrNone {
			t.Errorf("P1403: %v", e)
		}
		if a, ok := p.Where(x); a != (api.Addr{}) || ok {
			t.Error("P1403: Where")
		}
	}
	for _, c := range [][2]int{{-1, 0}, {0, -1}, {0, 17}, {17, 0}, {16, 1}, {math.MaxInt, 1}, {1, math.MaxInt}, {math.MinInt, 1}} {
		if b, e := p.Read(id, c[0], c[1]); b != nil || e != api.ErrArg {
			t.Errorf("P1402: %v: %v", c, e)
		}
	}
	if p.Write(id, 0, make([]byte, 17)) != api.ErrArg || p.Write(id, 10, make([]byte, 7)) != api.ErrArg || p.Write(id, -1, nil) != api.ErrArg {
		t.Error("P1402: Write")
	}
	if b, e := p.Read(id, 16, 0); len(b) != 0 || e != api.OK || p.Write(id, 16, nil) != api.OK {
		t.Errorf("P1402: none: %v", e)
	}
	p.Write(id, 0, []byte("dirty"))
	m.putE = api.ErrSpace
	other := p.Make()
	if e := p.Write(other, 0, []byte("x")); e != api.ErrSpace || p.Held() != 1 {
		t.Errorf("P1402: no way is made: %v", e)
	}
	if b, e := p.Read(other, 0, 1); e != api.OK || b[0] != 0 {
		t.Errorf("P5: %v", e)
	}
	if n, e := p.Copy(id); n != 0 || e != api.ErrSpace || p.Pages() != 2 {
		t.Errorf("P1402: Copy: %v", e)
	}
	if _, e := p.Save(id); e != api.ErrSpace {
		t.Errorf("P1403: %v", e)
	}
	if _, e := p.Save(other); e != api.ErrSpace || p.Evict(1) != 0 {
		t.Errorf("P1403: %v", e)
	}
	if p.Move(id, api.Addr{Sector: 1}) != api.ErrNot {
		t.Error("P1403: Move")
	}
	m.putE = api.OK
	if p.Evict(-1) != 0 || p.Evict(5) != 1 || p.Held() != 0 || len(m.blobs) != 1 {
		t.Error("P1403: Evict")
	}
	for _, e := range []api.Errno{api.ErrDown, api.ErrCorrupt} {
		m.getE = e
		if b, got := p.Read(id, 0, 1); b != nil || got != e {
			t.Errorf("P1402: %v", got)
		}
		if p.Write(id, 0, []byte("a")) != e {
			t.Error("P1402: Write")
		}
		if n, got := p.Copy(id); n != 0 || got != e {
			t.Errorf("P1402: %v", got)
		}
		if a, got := p.Save(id); got != api.OK || a.Sector != 1 {
			t.Errorf("P1403: it stands there already: %v", got)
		}
	}
	m.getE, m.tooShort = api.OK, true
	if _, e := p.Read(id, 0, 1); e != api.ErrCorrupt {
		t.Errorf("P1402: another number of bytes: %v", e)
	}
	m.tooShort = false
	if n := p.Make(); n != 3 {
		t.Errorf("P1401: one more each time: %d", n)
	}
}

func TestWhere(t *testing.T) { // P1403
	p, m := newPager(t, 2)
	id := p.Make()
	if _, ok := p.Where(id); ok {
		t.Error("P1403: a page that was made")
	}
	a, e := p.Save(id)
	if b, _ := m.Get(a); e != api.OK || !bytes.Equal(b, make([]byte, 16)) {
		t.Errorf("P1403: %v", e)
	}
	p.Write(id, 3, []byte("abc"))
	if _, ok := p.Where(id); ok {
		t.Error("P1403: it was written")
	}
	b, _ := p.Save(id)
	puts := len(m.blobs)
	if c, _ := p.Save(id); c != b || len(m.blobs) != puts {
		t.Error("P1403: no Put then")
	}
	if w, ok := p.Where(id); w != b || !ok {
		t.Error("P1403: Where")
	}
	p.Write(id, 3, []byte("abc"))
	if _, ok := p.Where(id); !ok {
		t.Error("P1403: the sink has them as they are")
	}
	copied, _ := p.Copy(id)
	if w, ok := p.Where(copied); w != b || !ok {
		t.Error("P1403: a copy stands where it stood")
	}
	m.blobs = append(m.blobs, m.blobs[b.Sector-1])
	to := api.Addr{Sector: len(m.blobs), N: 16}
	if p.Move(id, to) != api.OK {
		t.Error("P1403: Move")
	}
	m.blobs[b.Sector-1] = nil
	p.Evict(9)
	if got, e := p.Read(id, 3, 3); string(got) != "abc" || e != api.OK {
		t.Errorf("P1403: %v", e)
	}
	got, _ := p.Read(id, 0, 16)
	got[3] = 'x'
	if got, _ := p.Read(id, 3, 3); string(got) != "abc" {
		t.Error("P2: Read shares")
	}
	in := []byte("in")
	p.Write(id, 0, in)
	in[0] = 'x'
	if got, _ := p.Read(id, 0, 2); string(got) != "in" {
		t.Error("P2: Write keeps")
	}
	if got := m.blobs[to.Sector-1]; string(got[3:6]) != "abc" || got[0] != 0 {
		t.Error("P2: what the sink told was changed")
	}
}

func TestAlways(t *testing.T) { // P1404
	for seed := range int64(150) {
		r := rand.New(rand.NewSource(seed))
		held := 1 + r.Intn(4)
		p, m := newPager(t, held)
		now := map[int][]byte{}
		var ids []int
		pick := func() int { return ids[r.Intn(len(ids))] }
		for range 400 {
			if len(ids) == 0 || r.Intn(12) == 0 {
				id := p.Make()
				ids = append(ids, id)
				now[id] = make([]byte, 16)
			}
			m.putE = api.OK
			if r.Intn(6) == 0 {
				m.putE = api.ErrSpace
			}
			id := pick()
			switch r.Intn(9) {
			case 0, 1, 2:
				off := r.Intn(16)
				b := make([]byte, r.Intn(17-off))
				for i := range b {
					b[i] = byte(r.Intn(3))
				}
				if p.Write(id, off, b) == api.OK {
					copy(now[id][off:], b)
				} else if m.putE == api.OK {
					t.Fatal("P1402: Write")
				}
			case 3:
				if c, e := p.Copy(id); e == api.OK {
					ids = append(ids, c)
					now[c] = bytes.Clone(now[id])
				}
			case 4:
				a, e := p.Save(id)
				if b, _ := m.Get(a); e == api.OK && !bytes.Equal(b, now[id]) {
					t.Fatal("P1403: Save")
				}
			case 5:
				p.Evict(r.Intn(3))
			case 6:
				if a, ok := p.Where(id); ok {
					m.blobs = append(m.blobs, m.blobs[a.Sector-1])
					p.Move(id, api.Addr{Sector: len(m.blobs), N: 16})
				}
			case 7:
				if len(ids) > 8 {
					p.Drop(id)
					delete(now, id)
					ids = ids[:0]
					for k := range 10000 {
						if now[k] != nil {
							ids = append(ids, k)
						}
					}
				}
			}
			id = pick()
			if b, e := p.Read(id, 0, 16); e == api.OK && !bytes.Equal(b, now[id]) || e != api.OK && m.putE == api.OK {
				t.Fatalf("P1404: seed %d: %v", seed, e)
			}
			if a, ok := p.Where(id); ok && !bytes.Equal(m.blobs[a.Sector-1], now[id]) {
				t.Fatal("P1403: Where")
			}
			if p.Held() > held || p.Pages() != len(now) {
				t.Fatal("P1404: Held")
			}
		}
	}
}
