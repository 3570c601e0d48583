package image

import (
	"bytes"
	"maps"
	"math/rand"
	"reflect"
	"slices"
	"testing"

	"almanac/api"
	"almanac/live"
	"almanac/pager"
	"almanac/space"
)

var shape = api.Config{Page: 16, Procs: 5, Regions: 4, Pages: 4096}

// mem is a sink in memory.
type mem struct {
	blobs map[api.Addr][]byte
	puts  int
	gets  int
	putE  api.Errno
	getE  api.Errno
}

func (m *mem) Put(b []byte) (api.Addr, api.Errno) {
	if m.putE != api.OK {
		return api.Addr{}, m.putE
	}
	a := api.Addr{Sector: 60000 + m.puts%5000, N: len(b)}
	m.puts++
	m.blobs[a] = bytes.Clone(b)
	return a, api.OK
}

func (m *mem) Get(a api.Addr) ([]byte, api.Errno) {
	m.gets++
	if m.getE != api.OK {
		return nil, m.getE
	}
	b, ok := m.blobs[a]
	if !ok {
		return nil, api.ErrCorrupt
	}
	return b, api.OK
}

func newMem() *mem { return &mem{blobs: map[api.Addr][]byte{}} }

// build steps a maker to its end, and counts.
func build(t *testing.T, m *Maker, s *mem, k Keeper) (root api.Addr, steps int) {
	t.Helper()
	for {
		if _, ok := m.Root(); ok {
			t.Fatal("P2101: Root ahead of the end")
		}
		puts := s.puts
		more, e := m.Step(k)
		if e != api.OK || s.puts-puts > putsOfStep || m.Steps() != steps+1 {
			t.Fatalf("P2101: Step: %v, %d puts, %d steps", e, s.puts-puts, m.Steps())
		}
		steps++
		if !more {
			root, ok := m.Root()
			if !ok {
				t.Fatal("P2101: Root")
			}
			return root, steps
		}
	}
}

// plain tells processes with their slots' bytes in place of their numbers.
func plain(t *testing.T, l []live.Process, page func(id int) []byte) map[api.Page]string {
	t.Helper()
	all := map[api.Page]string{}
	for _, x := range l {
		var regions []byte
		for _, r := range x.Regions {
			regions = append(regions, byte(r.Lo>>8), byte(r.Lo), byte(r.Hi>>8), byte(r.Hi), byte(r.Prot))
		}
		all[api.Page{Pid: x.Pid, N: -1}] = string(regions)
		for _, s := range x.Slots {
			all[api.Page{Pid: x.Pid, N: s.Page}] = string(page(s.Id))
		}
	}
	return all
}

func randomOp(r *rand.Rand) api.Op {
	op := api.Op{Kind: 1 + r.Intn(8), Pid: r.Intn(5)}
	at := []int{0, 20, 300, 4000}[r.Intn(4)] + r.Intn(20)
	switch op.Kind {
	case api.OMake:
		return api.Op{Kind: api.OMake}
	case api.OMap:
		op.At, op.N, op.Prot = at, 1+r.Intn(40), 3
	case api.OUnmap:
		op.At, op.N = at, 1+r.Intn(5)
	case api.OProtect:
		op.At, op.N, op.Prot = at, 1+r.Intn(5), 2+r.Intn(2)
	case api.OFork, api.OExit:
		if r.Intn(3) > 0 {
			return api.Op{Kind: api.OStore, Pid: op.Pid, At: at * 16, Data: []byte{byte(r.Intn(3))}}
		}
	default:
		op.Kind = api.OStore
		op.At, op.Data = at*16+r.Intn(16), make([]byte, r.Intn(60))
		r.Read(op.Data)
	}
	return op
}

// differs counts what P2104 counts.
func differs(old, l []live.Process, oldAt []api.Addr, at func(id int) api.Addr) int {
	type thing struct {
		pid, n int
		r      api.Region
		a      api.Addr
	}
	has := func(l []live.Process, at func(id int) api.Addr) map[thing]int {
		all := map[thing]int{}
		for _, x := range l {
			all[thing{pid: x.Pid, n: -2}]++
			for _, r := range x.Regions {
				all[thing{pid: x.Pid, n: -1, r: r}]++
			}
			for _, s := range x.Slots {
				all[thing{pid: x.Pid, n: s.Page, a: at(s.Id)}]++
			}
		}
		return all
	}
	a := has(old, func(id int) api.Addr { return oldAt[id-1] })
	b := has(l, at)
	n := 0
	for x := range a {
		if b[x] == 0 {
			n++
		}
	}
	for x := range b {
		if a[x] == 0 {
			n++
		}
	}
	return n
}

func TestImages(t *testing.T) { // P2101 to P2104
	for seed := range int64(60) {
		r := rand.New(rand.NewSource(seed))
		s := newMem()
		p, _ := pager.New(16, 4, s)
		m, _ := live.New(shape, p)
		root := api.Addr{}
		for range 12 {
			for range r.Intn(60) {
				m.Do(randomOp(r))
			}
			l := m.Processes()
			was, wasAt, e := Load(shape, s, root)
			if e != api.OK {
				t.Fatalf("P2102: %v", e)
			}
			k, e := Start(shape, s, root, l...)
			if e != api.OK {
				t.Fatalf("P2101: %v", e)
			}
			next, steps := build(t, k, s, p)
			saved := func(id int) api.Addr { a, _ := p.Where(id); return a }
			if n := differs(was, l, wasAt, saved); steps > 4*n+16 {
				t.Fatalf("P2104: %d steps for %d", steps, n)
			} else if n == 0 && next != root {
				t.Fatal("P2101: it shares nothing")
			}
			got, at, e := Load(shape, s, next)
			want := plain(t, l, func(id int) []byte { b, _ := p.Read(id, 0, 16); return b })
			if e != api.OK || !maps.Equal(plain(t, got, func(id int) []byte { b, _ := s.Get(at[id-1]); return b }), want) {
				t.Fatalf("P2103: seed %d: %v", seed, e)
			}
			places(t, got, at)
			if e := Check(shape, s, next); e != api.OK {
				t.Fatalf("P2102: %v", e)
			}
			if more, e := k.Step(p); more || e != api.OK {
				t.Fatal("P2101: Step behind the end")
			}
			root = next
		}
		anyBytes(t, r, s, root)
	}
}

// places tells whether Ids are 1, 2, .. the same for the same place.
func places(t *testing.T, l []live.Process, at []api.Addr) {
	t.Helper()
	next := 1
	for _, x := range l {
		for _, y := range x.Slots {
			if y.Id > next || y.Id < 1 {
				t.Fatal("P2102: Ids")
			}
			if y.Id == next {
				next++
			}
		}
	}
	sortedAt := slices.Clone(at)
	slices.SortFunc(sortedAt, func(a, b api.Addr) int { return a.Sector - b.Sector })
	if next != len(at)+1 || len(slices.Compact(sortedAt)) != len(at) {
		t.Fatal("P2102: places")
	}
}

// anyBytes changes blobs of an image.
func anyBytes(t *testing.T, r *rand.Rand, s *mem, root api.Addr) { // P2103
	t.Helper()
	all, e := Blobs(shape, s, root)
	if e != api.OK || !slices.IsSortedFunc(all, func(a, b api.Addr) int { return a.Sector - b.Sector }) {
		t.Fatalf("P2102: Blobs: %v", e)
	}
	if len(all) == 0 {
		return
	}
	for _, a := range all {
		b := s.blobs[a]
		delete(s.blobs, a)
		if e := Check(shape, s, root); e != api.ErrCorrupt {
			t.Fatalf("P2102: Check without a blob: %v", e)
		}
		s.blobs[a] = append(bytes.Clone(b), 0)
		if e := Check(shape, s, root); e != api.ErrCorrupt {
			t.Fatalf("P2102: Check of a longer blob: %v", e)
		}
		s.blobs[a] = b
	}
	for range 200 {
		a := all[r.Intn(len(all))]
		b := s.blobs[a]
		x := bytes.Clone(b)
		x[r.Intn(len(x))] ^= byte(1 << r.Intn(8))
		s.blobs[a] = x
		l, at, e := Load(shape, s, root)
		if e != api.OK && (l != nil || at != nil) {
			t.Fatal("P4: Load")
		}
		Blobs(shape, s, root)
		Check(shape, s, root)
		k, e := Start(shape, s, root, live.Process{Pid: 1})
		if e != api.OK {
			t.Fatalf("P2101: %v", e)
		}
		next, _ := build(t, k, s, nil)
		if l, _, e := Load(shape, s, next); e == api.OK && (len(l) != 1 || l[0].Pid != 1) {
			t.Fatalf("P2103: %v", l)
		}
		s.blobs[a] = b
	}
}

func TestErrors(t *testing.T) { // P2101, P2102
	s := newMem()
	wrong := shape
	wrong.Pages = 0
	if m, e := Start(wrong, s, api.Addr{}, live.Process{Pid: -1}); m != nil || e != api.ErrArg {
		t.Errorf("P2101: %v", e)
	}
	l := []api.Region{{Lo: 0, Hi: 2, Prot: 3}}
	for _, c := range [][]live.Process{
		{{Pid: -1}}, {{Pid: 5}}, {{Pid: 1}, {Pid: 1}}, {{Pid: 2}, {Pid: 1}},
		{{Pid: 0, Regions: []api.Region{{Lo: 0, Hi: 4097}}}},
		{{Pid: 0, Regions: []api.Region{{Lo: 0, Hi: 1}, {Lo: 2, Hi: 3}, {Lo: 4, Hi: 5}, {Lo: 6, Hi: 7}, {Lo: 8, Hi: 9}}}},
		{{Pid: 0, Slots: []space.Slot{{Page: 0, Id: 1}}}},
		{{Pid: 0, Regions: l, Slots: []space.Slot{{Page: 1, Id: 1}, {Page: 0, Id: 1}}}},
		{{Pid: 0, Regions: l, Slots: []space.Slot{{Page: 2, Id: 1}}}},
	} {
		if m, e := Start(shape, s, api.Addr{}, c...); m != nil || e != api.ErrForm {
			t.Errorf("P2101: %v: %v", c, e)
		}
	}
	if l, at, e := Load(wrong, s, api.Addr{}); l != nil || at != nil || e != api.ErrArg {
		t.Errorf("P2102: %v", e)
	}
	if l, e := Blobs(wrong, s, api.Addr{}); l != nil || e != api.ErrArg || Check(wrong, s, api.Addr{}) != api.ErrArg {
		t.Errorf("P2102: %v", e)
	}
	if l, at, e := Load(shape, s, api.Addr{}); len(l) != 0 || len(at) != 0 || e != api.OK {
		t.Errorf("P2102: no processes: %v", e)
	}
	if _, _, e := Load(shape, s, api.Addr{Sector: 1, N: 1}); e != api.ErrCorrupt {
		t.Errorf("P2102: %v", e)
	}
	m, _ := Start(shape, s, api.Addr{})
	if root, steps := build(t, m, s, nil); root != (api.Addr{}) || steps != 1 || s.puts != 0 {
		t.Errorf("P2101: no processes: %v", root)
	}
}

func TestStepErrors(t *testing.T) { // P2101
	s := newMem()
	p, _ := pager.New(16, 4, s)
	id := p.Make()
	l := []live.Process{{Pid: 3, Regions: []api.Region{{Lo: 7, Hi: 9, Prot: 3}}, Slots: []space.Slot{{Page: 8, Id: id}}}}
	m, _ := Start(shape, s, api.Addr{}, l...)
	first, _ := build(t, m, s, p)
	p.Write(id, 0, []byte("next"))
	s.getE = api.ErrDown
	m, e := Start(shape, s, first, l...)
	if e != api.OK {
		t.Fatalf("P2101: Start: %v", e)
	}
	if more, e := m.Step(p); more || e != api.ErrDown || m.Steps() != 0 {
		t.Errorf("P2101: the sink's: %v", e)
	}
	s.getE, s.putE = api.OK, api.ErrSpace
	if _, e := m.Step(p); e != api.ErrSpace {
		t.Errorf("P2101: the keeper's: %v", e)
	}
	s.putE = api.OK
	if more, e := m.Step(p); !more || e != api.OK {
		t.Errorf("P2101: %v", e)
	}
	s.putE = api.ErrSpace
	if _, e := m.Step(p); e != api.ErrSpace {
		t.Errorf("P2101: %v", e)
	}
	if root, ok := m.Root(); ok || root != (api.Addr{}) {
		t.Error("P2101: Root")
	}
	s.putE = api.OK
	more, e := m.Step(p)
	root, ok := m.Root()
	if more || e != api.OK || !ok || m.Steps() != 2 {
		t.Errorf("P2101: it may be stepped again: %v, %d", e, m.Steps())
	}
	got, at, e := Load(shape, s, root)
	if e != api.OK || len(at) != 1 || !reflect.DeepEqual(got[0].Regions, l[0].Regions) || got[0].Slots[0] != (space.Slot{Page: 8, Id: 1}) {
		t.Errorf("P2103: %v", e)
	}
	if b, _ := s.Get(at[0]); string(b[:4]) != "next" {
		t.Errorf("P2103: %q", b)
	}
	if other := shape; true {
		other.Pages = 8
		if _, _, e := Load(other, s, root); e != api.ErrCorrupt {
			t.Errorf("P2102: no machine of this shape: %v", e)
		}
		other = shape
		other.Procs = 3
		if _, _, e := Load(other, s, root); e != api.ErrCorrupt {
			t.Errorf("P2102: %v", e)
		}
		other = shape
		other.Page = 32
		if e := Check(other, s, root); e != api.ErrCorrupt {
			t.Errorf("P2102: pages of other bytes: %v", e)
		}
	}
}

// knowing is a keeper that knows what is unchanged.
type knowing struct {
	*pager.Pager
	saves int
}

func (k *knowing) Save(id int) (api.Addr, api.Errno) {
	k.saves++
	return k.Pager.Save(id)
}

func (k *knowing) Unchanged(pid, page int) bool { return page != 8 }

func TestKeeperKnows(t *testing.T) { // P2101: what the old image has is not saved
	s := newMem()
	p, _ := pager.New(16, 4, s)
	x := live.Process{Pid: 3, Regions: []api.Region{{Lo: 0, Hi: 20, Prot: 3}}}
	for page := range 20 {
		x.Slots = append(x.Slots, space.Slot{Page: page, Id: p.Make()})
	}
	m, _ := Start(shape, s, api.Addr{}, x)
	k := &knowing{Pager: p}
	first, _ := build(t, m, s, k)
	if k.saves != 20 {
		t.Errorf("%d", k.saves)
	}
	for _, y := range x.Slots {
		p.Write(y.Id, 0, []byte{byte(y.Page + 1)})
	}
	k.saves = 0
	m, _ = Start(shape, s, first, x)
	root, steps := build(t, m, s, k)
	_, at, _ := Load(shape, s, root)
	_, was, _ := Load(shape, s, first)
	if k.saves != 1 || steps != 2 || at[0] != was[0] || at[1] == was[0] {
		t.Errorf("%d saves, %d steps", k.saves, steps)
	}
}
