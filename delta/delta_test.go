package delta

import (
	"bytes"
	"maps"
	"math/rand"
	"slices"
	"testing"

	"almanac/api"
	"almanac/radix"
)

// mem is a sink in memory.
type mem struct {
	blobs [][]byte
	gone  int // the sector of one that cannot be read
}

func (m *mem) Put(b []byte) (api.Addr, api.Errno) {
	m.blobs = append(m.blobs, bytes.Clone(b))
	return api.Addr{Sector: len(m.blobs), N: len(b)}, api.OK
}

func (m *mem) Get(a api.Addr) ([]byte, api.Errno) {
	if a.Sector < 1 || a.Sector > len(m.blobs) || a.Sector == m.gone {
		return nil, api.ErrCorrupt
	}
	return bytes.Clone(m.blobs[a.Sector-1]), api.OK
}

func key(r *rand.Rand) int { return r.Intn(4)<<20 | r.Intn(3)<<10 | r.Intn(30) }

// grow tells a tree made of another one by n Sets and Deletes.
func grow(r *rand.Rand, x *radix.Tree, root radix.Root, now map[int]string, n int) (radix.Root, map[int]string) {
	now = maps.Clone(now)
	for range n {
		k := key(r)
		if r.Intn(3) == 0 {
			root, _ = x.Delete(root, k)
			delete(now, k)
			continue
		}
		v := string(rune('a' + r.Intn(3)))
		root, _ = x.Set(root, k, []byte(v))
		now[k] = v
	}
	return root, now
}

func TestKeys(t *testing.T) { // P1201 to P1203
	for seed := range int64(200) {
		r := rand.New(rand.NewSource(seed))
		m := &mem{}
		x := radix.New(m)
		a, was := grow(r, x, radix.Root{}, map[int]string{}, r.Intn(150))
		n := r.Intn(25)
		b, now := grow(r, x, a, was, n)
		if seed%5 == 0 {
			n = 1000
			b, now = grow(r, x, radix.Root{}, map[int]string{}, r.Intn(100))
		}
		var all []Change
		last := -1
		for c := range Keys(x, a, b) {
			old, had := was[c.Key]
			neu, has := now[c.Key]
			if c.Key <= last || c.Had != had || c.Has != has || string(c.Old) != old || string(c.New) != neu || had == has && old == neu {
				t.Fatalf("P1201: %v", c)
			}
			last = c.Key
			all = append(all, c)
		}
		want := 0
		for k := range now {
			if old, had := was[k]; !had || old != now[k] {
				want++
			}
		}
		for k := range was {
			if _, has := now[k]; !has {
				want++
			}
		}
		count, e := Count(x, a, b)
		same, e2 := Same(x, a, b)
		if len(all) != want || count != want || e != api.OK || e2 != api.OK || same != (want == 0) {
			t.Fatalf("P1201: %d, %d; want %d", len(all), count, want)
		}
		for range Keys(x, a, b) {
			break
		}
		made, e := Apply(x, a, all...)
		if same, _ := Same(x, made, b); e != api.OK || !same {
			t.Fatalf("P1203: Apply: %v", e)
		}
		only, e := Only(x, a, b)
		nodesA, _ := x.Nodes(a)
		nodesB, _ := x.Nodes(b)
		shared := 0
		for _, k := range nodesB {
			if slices.Contains(nodesA, k) == slices.Contains(only, k) {
				t.Fatal("P1202: Only")
			}
			if slices.Contains(nodesA, k) {
				shared++
			}
		}
		if e != api.OK || len(only)+shared != len(nodesB) || len(only) > n*radix.Levels || !slices.IsSortedFunc(only, func(a, b radix.Root) int { return a.Sector - b.Sector }) {
			t.Fatalf("P1202, P1203: %d of %d", len(only), len(nodesB))
		}
	}
}

func TestErrors(t *testing.T) { // P1201, P1202
	r := rand.New(rand.NewSource(1))
	m := &mem{}
	x := radix.New(m)
	a, was := grow(r, x, radix.Root{}, map[int]string{}, 100)
	b, now := grow(r, x, radix.Root{}, map[int]string{}, 100)
	var all []Change
	for c := range Keys(x, a, b) {
		all = append(all, c)
	}
	nodes, _ := x.Nodes(a)
	other, _ := x.Nodes(b)
	for _, n := range append(nodes, other...) {
		m.gone = n.Sector
		i := 0
		for c := range Keys(x, a, b) {
			if c.Key != all[i].Key || string(c.Old) != was[c.Key] || string(c.New) != now[c.Key] {
				t.Fatalf("P1201: %v", c)
			}
			i++
		}
		if i == len(all) {
			t.Error("P1201: it does not end where a node cannot be read")
		}
		if k, e := Count(x, a, b); k != 0 || e != api.ErrCorrupt {
			t.Errorf("P1201: %v", e)
		}
		if same, e := Same(x, a, b); same || e != api.ErrCorrupt {
			t.Errorf("P1201: %v", e)
		}
		if l, e := Only(x, a, b); l != nil || e != api.ErrCorrupt {
			t.Errorf("P1202: %v", e)
		}
	}
	m.gone = 0
	if got, e := Apply(x, a); got != a || e != api.OK {
		t.Errorf("P1202: %v", e)
	}
	if got, e := Apply(x, a, Change{Key: 5, Has: true}, Change{Key: -1}); got != (radix.Root{}) || e != api.ErrArg {
		t.Errorf("P1202: %v", e)
	}
	if got, e := Apply(x, a, Change{Key: 5, Has: true, New: make([]byte, 257)}); got != (radix.Root{}) || e != api.ErrLong {
		t.Errorf("P1202: %v", e)
	}
	got, _ := Apply(x, radix.Root{}, Change{Key: 5, Has: true, New: []byte{1}}, Change{Key: 5, New: []byte{2}, Had: true})
	if got != (radix.Root{}) {
		t.Error("P1202: one behind the other")
	}
	if same, e := Same(x, radix.Root{}, radix.Root{}); !same || e != api.OK {
		t.Error("P1201: of none")
	}
}
