package radix

import (
	"bytes"
	"maps"
	"math"
	"math/rand"
	"slices"
	"testing"

	"almanac/api"
)

// mem is a sink in memory.
type mem struct {
	blobs map[api.Addr][]byte
	puts  int
	gets  int
	fail  int // puts up to the one that fails; 0: none
	other map[api.Addr]api.Addr
}

func newMem() *mem { return &mem{blobs: map[api.Addr][]byte{}, other: map[api.Addr]api.Addr{}} }

func (m *mem) Put(b []byte) (api.Addr, api.Errno) {
	if m.fail > 0 {
		if m.fail--; m.fail == 0 {
			return api.Addr{}, api.ErrSpace
		}
	}
	a := api.Addr{Sector: 5 + m.puts, N: len(b)}
	m.puts++
	m.blobs[a] = bytes.Clone(b)
	return a, api.OK
}

func (m *mem) Get(a api.Addr) ([]byte, api.Errno) {
	m.gets++
	if o, ok := m.other[a]; ok {
		a = o
	}
	b, ok := m.blobs[a]
	if !ok {
		return nil, api.ErrNone
	}
	return bytes.Clone(b), api.OK
}

func tell(t testing.TB, x *Tree, r Root, want map[int]string) {
	t.Helper()
	got := map[int]string{}
	last := -1
	for k, v := range x.All(r) {
		if k <= last {
			t.Fatalf("P1102: %d behind %d", k, last)
		}
		last = k
		got[k] = string(v)
	}
	if !maps.Equal(got, want) {
		t.Fatalf("P1102: %d keys; want %d", len(got), len(want))
	}
	if n, e := x.Check(r); n != len(want) || e != api.OK {
		t.Fatalf("P1102: Check: %d, %v", n, e)
	}
}

func randomKey(r *rand.Rand) int {
	if r.Intn(2) == 0 {
		return r.Intn(1 << 24)
	}
	return r.Intn(3)<<20 | r.Intn(3)<<9 | r.Intn(20)
}

func TestSetDelete(t *testing.T) { // P1101, P1102, P1104
	for seed := range int64(30) {
		r := rand.New(rand.NewSource(seed))
		m := newMem()
		x := New(m)
		root := Root{}
		now := map[int]string{}
		type past struct {
			root Root
			all  map[int]string
		}
		var pasts []past
		for range 300 {
			key := randomKey(r)
			if len(now) > 0 && r.Intn(2) == 0 {
				keys := slices.Sorted(maps.Keys(now))
				key = keys[r.Intn(len(keys))]
			}
			puts, gets := m.puts, m.gets
			old, had := now[key]
			var next Root
			var e api.Errno
			same := false
			if r.Intn(5) < 2 {
				next, e = x.Delete(root, key)
				same = !had
				delete(now, key)
			} else {
				v := string(rune('a' + r.Intn(3)))
				next, e = x.Set(root, key, []byte(v))
				same = had && old == v
				now[key] = v
			}
			if e != api.OK || same != (next == root) && len(now) > 0 || m.puts-puts > Levels || m.gets-gets > Levels {
				t.Fatalf("P1101: %v, %v, %v, %d puts, %d gets", e, same, next == root, m.puts-puts, m.gets-gets)
			}
			if (len(now) == 0) != (next == Root{}) {
				t.Fatalf("P1101: root %v of %d keys", next, len(now))
			}
			root = next
			if v, ok, e := x.Get(root, key); e != api.OK || string(v) != now[key] || ok != (now[key] != "") {
				t.Fatalf("P1101: Get: %q, %v, %v", v, ok, e)
			}
			if r.Intn(20) == 0 {
				pasts = append(pasts, past{root, maps.Clone(now)})
			}
		}
		for _, p := range append(pasts, past{root, now}) {
			tell(t, x, p.root, p.all)
		}
		if x.Puts() != m.puts {
			t.Errorf("P1102: Puts: %d; %d", x.Puts(), m.puts)
		}
		keys := slices.Collect(maps.Keys(now))
		vals := make([][]byte, len(keys))
		for i, k := range keys {
			vals[i] = []byte(now[k])
		}
		m2 := newMem()
		x2 := New(m2)
		built, e := x2.Build(keys, vals)
		nodes, _ := x.Nodes(root)
		if e != api.OK || m2.puts != len(nodes) {
			t.Errorf("P1102: Build puts %d nodes; the tree has %d", m2.puts, len(nodes))
		}
		tell(t, x2, built, now)
	}
}

func TestErrors(t *testing.T) { // P1101, P1102
	m := newMem()
	x := New(m)
	root, _ := x.Set(Root{}, 0, nil)
	if v, ok, e := x.Get(root, 0); len(v) != 0 || !ok || e != api.OK {
		t.Errorf("P1101: a value of no bytes: %v, %v", ok, e)
	}
	root, e := x.Set(root, 1<<24-1, make([]byte, MaxVal))
	if e != api.OK {
		t.Errorf("P1101: %v", e)
	}
	if v, _, _ := x.Get(root, 1<<24-1); len(v) != 256 {
		t.Errorf("P1101: %d", len(v))
	}
	for _, key := range []int{-1, 1 << 24, math.MaxInt, math.MinInt} {
		if _, ok, e := x.Get(root, key); ok || e != api.ErrArg {
			t.Errorf("P1101: Get %d: %v", key, e)
		}
		if r, e := x.Set(root, key, make([]byte, 999)); r != (Root{}) || e != api.ErrArg {
			t.Errorf("P1101: Set %d: %v", key, e)
		}
		if r, e := x.Delete(root, key); r != (Root{}) || e != api.ErrArg {
			t.Errorf("P1101: Delete %d: %v", key, e)
		}
		if r, e := x.Build([]int{1, key}, [][]byte{make([]byte, 257), nil}); r != (Root{}) || e != api.ErrArg {
			t.Errorf("P1102: Build %d: %v", key, e)
		}
	}
	none := Root{Sector: 999, N: 9}
	if r, e := x.Set(none, 1, make([]byte, 257)); r != (Root{}) || e != api.ErrLong {
		t.Errorf("P1101: %v", e)
	}
	if _, e := x.Set(none, 1, nil); e != api.ErrNone {
		t.Errorf("P1101: the sink's: %v", e)
	}
	if _, e := x.Delete(none, 1); e != api.ErrNone {
		t.Errorf("P1101: %v", e)
	}
	if _, _, e := x.Get(none, 1); e != api.ErrNone {
		t.Errorf("P1101: %v", e)
	}
	if _, e := x.Build([]int{1}, nil); e != api.ErrArg {
		t.Errorf("P1102: %v", e)
	}
	if _, e := x.Build([]int{1}, [][]byte{make([]byte, 257)}); e != api.ErrLong {
		t.Errorf("P1102: %v", e)
	}
	if r, e := x.Build(nil, nil); r != (Root{}) || e != api.OK {
		t.Errorf("P1102: %v", e)
	}
	if r, _ := x.Build([]int{4, 4}, [][]byte{{1}, {2}}); r != (Root{}) {
		if v, _, _ := x.Get(r, 4); !bytes.Equal(v, []byte{2}) {
			t.Errorf("P1102: the last one counts: %v", v)
		}
	}
	if n, e := x.Check(none); n != 0 || e != api.ErrNone {
		t.Errorf("P1102: %v", e)
	}
	if n, e := x.Nodes(none); n != nil || e != api.ErrNone {
		t.Errorf("P1102: %v", e)
	}
	m.fail = 2
	if r, e := x.Set(root, 77<<12, nil); r != (Root{}) || e != api.ErrSpace {
		t.Errorf("P1101: %v", e)
	}
	for k := range x.All(root) {
		if k != 0 {
			t.Error("P7: left early")
		}
		break
	}
}

func TestOtherNodes(t *testing.T) { // P1103: nodes at places where they do not stand
	r := rand.New(rand.NewSource(4))
	m := newMem()
	x := New(m)
	var keys []int
	var vals [][]byte
	for range 400 {
		keys = append(keys, randomKey(r))
		vals = append(vals, []byte{byte(r.Intn(256))})
	}
	root, _ := x.Build(keys, vals)
	nodes, _ := x.Nodes(root)
	if !slices.IsSortedFunc(nodes, func(a, b Root) int { return a.Sector - b.Sector }) || len(nodes) != m.puts {
		t.Error("P1102: Nodes")
	}
	for _, n := range nodes {
		if n == root {
			continue
		}
		if _, e := x.Check(n); e != api.ErrCorrupt {
			t.Fatalf("P1103: a child as a root: %v", e)
		}
		m.other = map[api.Addr]api.Addr{n: nodes[r.Intn(len(nodes))]}
		if m.other[n] == n {
			continue
		}
		if _, e := x.Check(root); e != api.ErrCorrupt {
			t.Fatalf("P1103: another node: %v", e)
		}
		if _, e := x.Nodes(root); e != api.ErrCorrupt {
			t.Fatalf("P1103: another node: %v", e)
		}
		for range x.All(root) {
		}
		for _, k := range keys {
			gets := m.gets
			v, ok, e := x.Get(root, k)
			if m.gets-gets > Levels || e == api.OK && !ok || e != api.OK && (e != api.ErrCorrupt || v != nil) {
				t.Fatalf("P1103: %v, %v", ok, e)
			}
		}
	}
	m.other = map[api.Addr]api.Addr{}
	for n, b := range m.blobs {
		m.blobs[n] = []byte("no node")
		if _, e := x.Check(root); e != api.ErrCorrupt {
			t.Fatalf("P1103: %v", e)
		}
		m.blobs[n] = b
	}
}

func TestAnyBytes(t *testing.T) { // P1103
	for seed := range int64(3000) {
		r := rand.New(rand.NewSource(seed))
		m := newMem()
		x := New(m)
		root := Root{}
		for range 1 + r.Intn(20) {
			root, _ = x.Set(root, randomKey(r), []byte{1})
		}
		nodes, _ := x.Nodes(root)
		for range 1 + r.Intn(4) {
			n := nodes[r.Intn(len(nodes))]
			b := m.blobs[n]
			b[r.Intn(len(b))] = byte(r.Intn(256))
		}
		x.Check(root)
		x.Nodes(root)
		for range x.All(root) {
		}
		key := randomKey(r)
		gets := m.gets
		x.Get(root, key)
		if m.gets-gets > Levels {
			t.Fatal("P1103: Get")
		}
		x.Set(root, key, []byte{2})
		x.Delete(root, key)
	}
}

func TestLimits(t *testing.T) { // a node of an image's size is short
	m := newMem()
	m.puts = 60000
	x := New(m)
	var keys []int
	var vals [][]byte
	for k := range 16 {
		for j := range 16 {
			keys = append(keys, 1<<23|63<<16|k<<12|j)
			vals = append(vals, []byte{1, 2, 3, 4, 5})
		}
	}
	root, _ := x.Build(keys, vals)
	nodes, _ := x.Nodes(root)
	for _, n := range nodes {
		if n.N > 106 {
			t.Errorf("a node has %d bytes", n.N)
		}
	}
}
