package twig

import (
	"bytes"
	"maps"
	"math/rand"
	"testing"

	"almanac/api"
)

// mem is a sink in memory.
type mem struct {
	blobs [][]byte
	gets  int
	putE  api.Errno
}

func (m *mem) Put(b []byte) (api.Addr, api.Errno) {
	if m.putE != api.OK {
		return api.Addr{}, m.putE
	}
	m.blobs = append(m.blobs, b)
	return api.Addr{Sector: len(m.blobs), N: len(b)}, api.OK
}

func (m *mem) Get(a api.Addr) ([]byte, api.Errno) {
	m.gets++
	if a.Sector < 1 || a.Sector > len(m.blobs) {
		return nil, api.ErrCorrupt
	}
	return m.blobs[a.Sector-1], api.OK
}

// keys tells what a tree has.
func keys(t *testing.T, w *Work, keep bool) map[int]string {
	t.Helper()
	all := map[int]string{}
	e := w.Walk(keep, func(api.Addr) bool { return true }, func(key int, v []byte) bool {
		all[key] = string(v)
		return true
	})
	if e != api.OK {
		t.Fatal(e)
	}
	return all
}

func TestWork(t *testing.T) { // many changes at once, whose nodes are each put once, some at a time
	for seed := range int64(60) {
		r := rand.New(rand.NewSource(seed))
		m := &mem{}
		root := api.Addr{}
		now := map[int]string{}
		for range 8 {
			w := Open(m, root)
			if got := keys(t, w, true); !maps.Equal(got, now) {
				t.Fatalf("seed %d: %d keys; want %d", seed, len(got), len(now))
			}
			gets := m.gets
			for range r.Intn(60) {
				key := r.Intn(3)<<22 | r.Intn(4)<<10 | r.Intn(40)
				if v := string(rune('a' + r.Intn(9))); r.Intn(3) > 0 {
					w.Set(key, []byte(v))
					now[key] = v
				} else {
					w.Delete(key)
					delete(now, key)
				}
				if v, ok, e := w.Get(key); e != api.OK || string(v) != now[key] || ok != (now[key] != "") {
					t.Fatalf("seed %d: %q, %v, %v", seed, v, ok, e)
				}
			}
			if m.gets != gets {
				t.Fatal("what was kept is read again")
			}
			w.Plan()
			m.putE = api.ErrSpace
			if more, e := w.Put(3); e == api.OK && more {
				t.Fatal("an error is not told")
			}
			m.putE = api.OK
			puts := len(m.blobs)
			for more, e := w.Put(3); more; more, e = w.Put(3) {
				if e != api.OK || len(m.blobs)-puts > 3 {
					t.Fatalf("%v", e)
				}
				puts = len(m.blobs)
			}
			root = w.Root()
		}
		again := Open(m, api.Addr{})
		for key, v := range now {
			again.Set(key, []byte(v))
		}
		if got := keys(t, Open(m, root), false); !maps.Equal(got, now) || !maps.Equal(keys(t, again, false), now) {
			t.Fatalf("seed %d: other keys", seed)
		}
	}
}

func TestDecode(t *testing.T) { // bytes that are no node
	k := newKnot(0, 0)
	k.setLimb(3, &limb{at: api.Addr{Sector: 1, N: 2}, level: 5})
	good := k.encode()
	if x, ok := decode(good); !ok || !bytes.Equal(x.encode(), good) {
		t.Error("a root of one child")
	}
	for _, f := range []func(){
		func() { k.limbs[3].level = 6 },
		func() { k.limbs[3].level = 0 },
		func() { k.level = 2; k.limbs[3].level = 5 },
		func() { k.prefix = 256; k.setLimb(4, k.limbs[3]) },
		func() { k.prefix = -1 },
	} {
		f()
		if _, ok := decode(k.encode()); ok {
			t.Errorf("%v", k)
		}
	}
	for n := range good {
		if _, ok := decode(good[:n]); ok {
			t.Errorf("cut to %d", n)
		}
	}
	if _, ok := decode(append(good, 0)); ok {
		t.Error("and more")
	}
	x := newKnot(leaf, 9)
	if _, ok := decode(x.encode()); ok {
		t.Error("a leaf of none")
	}
	x.setVal(0, make([]byte, MaxVal+1))
	if _, ok := decode(x.encode()); ok {
		t.Error("a long value")
	}
}
