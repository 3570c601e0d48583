package live

import (
	"bytes"
	"math/rand"
	"reflect"
	"slices"
	"testing"

	"almanac/api"
	"almanac/model"
	"almanac/pager"
	"almanac/space"
)

var shape = api.Config{Page: 16, Procs: 4, Regions: 4, Pages: 12}

// mem is a sink in memory.
type mem struct {
	blobs [][]byte
	putE  api.Errno
	getE  api.Errno
}

func (m *mem) Put(b []byte) (api.Addr, api.Errno) {
	if m.putE != api.OK {
		return api.Addr{}, m.putE
	}
	m.blobs = append(m.blobs, b)
	return api.Addr{Sector: len(m.blobs), N: len(b)}, api.OK
}

func (m *mem) Get(a api.Addr) ([]byte, api.Errno) {
	if a.Sector < 1 || a.Sector > len(m.blobs) || m.getE != api.OK {
		return nil, max(m.getE, api.ErrNone)
	}
	return m.blobs[a.Sector-1], api.OK
}

func newPager(t *testing.T, held int) (*pager.Pager, *mem) {
	t.Helper()
	s := &mem{}
	p, e := pager.New(16, held, s)
	if e != api.OK {
		t.Fatal(e)
	}
	return p, s
}

// randomOp tells an operation that may be, and sometimes may not.
func randomOp(r *rand.Rand) api.Op {
	op := api.Op{Kind: 1 + r.Intn(10), Pid: r.Intn(5), At: r.Intn(13), N: 1 + r.Intn(4), Prot: r.Intn(4)}
	if r.Intn(3) > 0 {
		op.Kind = []int{api.OMap, api.OLoad, api.OStore, api.OStore}[r.Intn(4)]
	}
	if op.Kind == api.OMap && r.Intn(2) == 0 {
		op.Prot = 3
	}
	if op.Kind == api.OLoad || op.Kind == api.OStore {
		op.At, op.N, op.Prot = r.Intn(192), r.Intn(60), 0
	}
	if op.Kind == api.OStore {
		op.N, op.Data = 0, make([]byte, r.Intn(50))
		for i := range op.Data {
			op.Data[i] = byte(r.Intn(3))
		}
	}
	switch op.Kind {
	case api.OMake, api.OList:
		op = api.Op{Kind: op.Kind}
	case api.OFork, api.OExit:
		op = api.Op{Kind: op.Kind, Pid: op.Pid}
	case api.OUnmap:
		op.Prot = 0
	}
	if r.Intn(40) == 0 {
		op.Prot = 1 - r.Intn(5)
	}
	return op
}

func sameAnswer(a, b api.Answer) bool {
	return a.Err == b.Err && a.Pid == b.Pid && bytes.Equal(a.Data, b.Data) && slices.Equal(a.Pids, b.Pids)
}

// holds tells whether processes are those of a model.
func holds(t *testing.T, p *pager.Pager, l []Process, m *model.Machine) bool {
	t.Helper()
	var pids []int
	for _, x := range l {
		pids = append(pids, x.Pid)
		var places []int
		for _, s := range x.Slots {
			places = append(places, s.Page)
			want, _ := m.Page(x.Pid, s.Page)
			if b, e := p.Read(s.Id, 0, 16); e != api.OK || !bytes.Equal(b, want) {
				return false
			}
		}
		if !slices.Equal(x.Regions, m.Regions(x.Pid)) || !slices.Equal(places, m.Stored(x.Pid)) {
			return false
		}
	}
	return slices.Equal(pids, m.Pids())
}

type frozen struct {
	f *Frozen
	m *model.Machine
}

func TestAlways(t *testing.T) { // P1901 to P1904
	for seed := range int64(250) {
		r := rand.New(rand.NewSource(seed))
		p, s := newPager(t, 1+r.Intn(4))
		m, e := New(shape, p)
		if e != api.OK {
			t.Fatal(e)
		}
		o, _ := model.New(shape)
		var cold []frozen
		for range 250 {
			op := randomOp(r)
			want := o.Twin().Do(op)
			if m.Check(op) != want.Err {
				t.Fatalf("P1902: Check of %v: %v; want %v", op, m.Check(op), want.Err)
			}
			if r.Intn(6) == 0 {
				s.putE = api.ErrSpace
			}
			if r.Intn(9) == 0 {
				s.getE = api.ErrCorrupt
			}
			a := m.Do(op)
			if a.Err != s.putE && a.Err != s.getE || a.Err == api.OK || want.Err != api.OK {
				if !sameAnswer(a, want) {
					t.Fatalf("P1904: seed %d: %v: %v; want %v", seed, op, a, want)
				}
				o.Do(op)
			} else if !sameAnswer(a, api.Answer{Err: a.Err}) {
				t.Fatalf("P4: %v", a)
			}
			s.putE, s.getE = api.OK, api.OK
			switch r.Intn(12) {
			case 0:
				p.Evict(r.Intn(3))
			case 1:
				cold = append(cold, frozen{m.Freeze(), o.Twin()})
			case 2:
				if len(cold) > 0 {
					k := r.Intn(len(cold))
					cold[k].f.Thaw()
					cold[k].f.Thaw()
					if cold[k].f.Weight() != 0 || len(cold[k].f.Processes()) != 0 {
						t.Fatal("P1903: Thaw")
					}
					cold = slices.Delete(cold, k, k+1)
				}
			case 3:
				for _, x := range m.Processes() {
					for _, y := range x.Slots {
						p.Save(y.Id)
					}
				}
			}
			if m.Weight() != o.Weight() || r.Intn(5) == 0 && !holds(t, p, m.Processes(), o) {
				t.Fatalf("P1904: seed %d: another machine behind %v", seed, op)
			}
		}
		ids := map[int]int{}
		count := func(l []Process) {
			for _, x := range l {
				for _, y := range x.Slots {
					ids[y.Id]++
				}
			}
		}
		for _, x := range cold {
			if !holds(t, p, x.f.Processes(), x.m) || x.f.Weight() != x.m.Weight() {
				t.Fatal("P1903: what is frozen has changed")
			}
			count(x.f.Processes())
		}
		count(m.Processes())
		if len(ids) != p.Pages() {
			t.Fatalf("P1903: %d pages; %d are anybody's", p.Pages(), len(ids))
		}
		before := m.Processes()
		again, e := Of(shape, p, before...)
		if e != api.OK || !reflect.DeepEqual(again.Processes(), before) || again.Weight() != m.Weight() {
			t.Fatalf("P1901: Of: %v", e)
		}
		twin := o.Twin()
		for range 60 {
			op := randomOp(r)
			if a, b := again.Do(op), twin.Do(op); !sameAnswer(a, b) {
				t.Fatalf("P1904: %v: %v; want %v", op, a, b)
			}
		}
		if !holds(t, p, m.Processes(), o) || !holds(t, p, again.Processes(), twin) {
			t.Fatal("P1901: machines share pages")
		}
	}
}

func TestOf(t *testing.T) { // P1901
	p, s := newPager(t, 2)
	wrong := shape
	wrong.Procs = 65
	if m, e := New(wrong, p); m != nil || e != api.ErrArg {
		t.Errorf("P1901: %v", e)
	}
	if m, e := Of(wrong, p, Process{Pid: -1}); m != nil || e != api.ErrArg {
		t.Errorf("P1901: %v", e)
	}
	l := []api.Region{{Lo: 0, Hi: 12, Prot: 3}}
	id := p.Make()
	for _, c := range [][]Process{
		{{Pid: 1}, {Pid: 0}},
		{{Pid: 1}, {Pid: 1}},
		{{Pid: -1}},
		{{Pid: 4}},
		{{Pid: 0, Regions: []api.Region{{Lo: 1, Hi: 1}}}},
		{{Pid: 0, Regions: l, Slots: []space.Slot{{Page: 0, Id: id}}}, {Pid: 1, Regions: l, Slots: []space.Slot{{Page: 0, Id: 77}}}},
		{{Pid: 0, Regions: l, Slots: []space.Slot{{Page: 0, Id: id}, {Page: 0, Id: id}}}},
		{{Pid: 0, Slots: []space.Slot{{Page: 0, Id: id}}}},
	} {
		if m, e := Of(shape, p, c...); m != nil || e != api.ErrForm || p.Pages() != 1 {
			t.Errorf("P1901: %v: %v", c, e)
		}
	}
	in := []Process{{Pid: 1, Regions: l, Slots: []space.Slot{{Page: 0, Id: id}, {Page: 3, Id: id}}}, {Pid: 3, Regions: l, Slots: []space.Slot{{Page: 5, Id: id}}}}
	m, e := Of(shape, p, in...)
	if e != api.OK || !reflect.DeepEqual(m.Processes(), in) || m.Weight() != 7 {
		t.Fatalf("P1901: %v", e)
	}
	m.Do(api.Op{Kind: api.OStore, Pid: 1, At: 0, Data: []byte("a")})
	if b, _ := p.Read(id, 0, 1); b[0] != 0 || p.Pages() != 2 {
		t.Error("P1901: pages whose numbers are the same are shared")
	}
	if a := m.Do(api.Op{Kind: api.OMake}); a.Pid != 0 || a.Err != api.OK {
		t.Errorf("P1901: %v", a)
	}
	puts := len(s.blobs)
	if a := m.Do(api.Op{Kind: api.OFork, Pid: 1}); a.Pid != 2 || p.Pages() != 2 || len(s.blobs) != puts {
		t.Errorf("P1902: OFork takes no page: %v", a)
	}
	for _, pid := range []int{1, 2, 3} {
		m.Do(api.Op{Kind: api.OExit, Pid: pid})
	}
	if p.Pages() != 0 || m.Weight() != 1 {
		t.Errorf("P1902: OExit leaves %d pages", p.Pages())
	}
}
