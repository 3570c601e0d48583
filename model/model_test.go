package model

import (
	"bytes"
	"math"
	"math/rand"
	"reflect"
	"slices"
	"testing"

	"almanac/api"
)

var shape = api.Config{Page: 16, Procs: 3, Regions: 3, Pages: 12}

func newMachine(t *testing.T) *Machine {
	t.Helper()
	m, e := New(shape)
	if e != api.OK {
		t.Fatal(e)
	}
	return m
}

func mk() api.Op { return api.Op{Kind: api.OMake} }
func mp(pid, at, n, prot int) api.Op {
	return api.Op{Kind: api.OMap, Pid: pid, At: at, N: n, Prot: prot}
}
func un(pid, at, n int) api.Op { return api.Op{Kind: api.OUnmap, Pid: pid, At: at, N: n} }
func pr(pid, at, n, prot int) api.Op {
	return api.Op{Kind: api.OProtect, Pid: pid, At: at, N: n, Prot: prot}
}
func ld(pid, at, n int) api.Op { return api.Op{Kind: api.OLoad, Pid: pid, At: at, N: n} }
func st(pid, at int, s string) api.Op {
	return api.Op{Kind: api.OStore, Pid: pid, At: at, Data: []byte(s)}
}
func fk(pid int) api.Op { return api.Op{Kind: api.OFork, Pid: pid} }
func ex(pid int) api.Op { return api.Op{Kind: api.OExit, Pid: pid} }
func li() api.Op        { return api.Op{Kind: api.OList} }

func TestNew(t *testing.T) { // P1801
	for i, f := range []func(c *api.Config){
		func(c *api.Config) { c.Page = 15 }, func(c *api.Config) { c.Page = 4097 },
		func(c *api.Config) { c.Procs = 0 }, func(c *api.Config) { c.Procs = 65 },
		func(c *api.Config) { c.Regions = 0 }, func(c *api.Config) { c.Regions = 33 },
		func(c *api.Config) { c.Pages = 0 }, func(c *api.Config) { c.Pages = 65537 },
	} {
		c := shape
		f(&c)
		if m, e := New(c); m != nil || e != api.ErrArg {
			t.Errorf("P1801: %d: %v", i, e)
		}
	}
	if m := newMachine(t); m.Weight() != 0 || len(m.Pids()) != 0 {
		t.Error("P1801: processes")
	}
}

func TestRight(t *testing.T) { // P1802
	good := []api.Op{mk(), mp(-1, 2, 3, 9), un(1, 2, 3), pr(1, 2, 3, 4), ld(1, 2, 3), st(1, 2, "x"), st(1, 2, ""), fk(7), ex(7), li(), {Kind: api.OMake, Data: []byte{}}}
	for _, op := range good {
		if !Right(op) {
			t.Errorf("P1802: %v", op)
		}
		b := Encode(op)
		if got, e := Decode(b); e != api.OK || !reflect.DeepEqual(Encode(got), b) || got.Kind != op.Kind || !bytes.Equal(got.Data, op.Data) || got.At != op.At {
			t.Errorf("P1804: %v: %v, %v", op, got, e)
		}
		for i := range b {
			if got, e := Decode(b[:i]); e != api.ErrForm || !reflect.DeepEqual(got, api.Op{}) {
				t.Errorf("P1804: %v cut: %v", op, e)
			}
		}
		if _, e := Decode(append(b, 0)); e != api.ErrForm {
			t.Errorf("P1804: %v and more: %v", op, e)
		}
	}
	m := newMachine(t)
	m.Do(mk())
	bad := []api.Op{{}, {Kind: 10}, {Kind: -1}, {Kind: math.MaxInt}, {Kind: api.OMake, Pid: 1}, {Kind: api.OList, N: 1}, {Kind: api.OList, Pid: 1}, {Kind: api.OFork, At: 1}, {Kind: api.OExit, Prot: 1}, {Kind: api.OExit, Data: []byte{1}}, {Kind: api.OLoad, Data: []byte{1}}, {Kind: api.OLoad, Prot: 1}, {Kind: api.OStore, N: 1}, {Kind: api.OStore, Prot: 1}, {Kind: api.OUnmap, N: 1, Prot: 1}, {Kind: api.OMap, N: 1, Data: []byte{1}}, {Kind: api.OProtect, N: 1, Data: []byte{1}}}
	for _, op := range bad {
		if Right(op) || m.Check(op) != api.ErrArg || !reflect.DeepEqual(m.Do(op), api.Answer{Err: api.ErrArg}) {
			t.Errorf("P1802: %v", op)
		}
		if _, e := Decode(Encode(op)); e != api.ErrForm {
			t.Errorf("P1804: %v: %v", op, e)
		}
	}
	big := api.Op{Kind: api.OStore, Data: make([]byte, 1<<20)}
	if got, e := Decode(Encode(big)); e != api.OK || len(got.Data) != 1<<20 {
		t.Errorf("P1804: %v", e)
	}
	for kind := range 12 {
		if Changes(kind) != (kind != api.OLoad && kind != api.OList) {
			t.Errorf("P1803: Changes of %d", kind)
		}
	}
}

// play does operations, and holds their answers against those that are wanted.
func play(t *testing.T, m *Machine, l []api.Op, want []api.Answer) {
	t.Helper()
	for i, op := range l {
		before := m.Twin()
		e := m.Check(op)
		if !m.Same(before) {
			t.Fatalf("Check of %v changes something", op)
		}
		a := m.Do(op)
		if e != a.Err || a.Err != want[i].Err || a.Pid != want[i].Pid || !bytes.Equal(a.Data, want[i].Data) || !slices.Equal(a.Pids, want[i].Pids) {
			t.Fatalf("P1802: %d: %v: %v (%v); want %v", i, op, a, e, want[i])
		}
		if a.Err != api.OK && (!m.Same(before) || m.Weight() != before.Weight()) {
			t.Fatalf("P1805: %v has changed something", op)
		}
	}
}

func er(e api.Errno) api.Answer { return api.Answer{Err: e} }

func TestDo(t *testing.T) { // P1802, P1805
	m := newMachine(t)
	ok := api.Answer{}
	play(t, m, []api.Op{li(), mk(), mp(0, 0, 2, 1), mp(0, 0, 2, 3), un(0, 0, 2), mp(0, 0, 2, 3), st(0, 14, "abcd"), fk(0), st(1, 15, "x"), ld(0, 13, 6), ld(1, 13, 6)},
		[]api.Answer{ok, ok, ok, er(api.ErrUsed), ok, ok, ok, {Pid: 1}, ok, {Data: []byte("\x00abcd\x00")}, {Data: []byte("\x00axcd\x00")}})
	play(t, m, []api.Op{mk(), mk(), fk(0), fk(9), li(), ex(1), ex(1), fk(2), li(), ex(2), ld(2, 0, 0)},
		[]api.Answer{{Pid: 2}, er(api.ErrPid), er(api.ErrPid), er(api.ErrNone), {Pids: []int{0, 1, 2}}, ok, er(api.ErrNone), {Pid: 1}, {Pids: []int{0, 1, 2}}, ok, er(api.ErrNone)})
	play(t, m, []api.Op{mp(3, -1, 0, 9), mp(0, 0, 0, 1), mp(0, 12, 1, 1), mp(0, 2, 1, 4), un(0, 0, 13), pr(0, 0, 1, -1), pr(0, 1, 2, 1), pr(5, 0, 1, 1)},
		[]api.Answer{er(api.ErrNone), er(api.ErrArg), er(api.ErrArg), er(api.ErrArg), er(api.ErrArg), er(api.ErrArg), er(api.ErrNone), er(api.ErrNone)})
	play(t, m, []api.Op{mp(0, 4, 2, 1), mp(0, 8, 2, 2), mp(0, 11, 1, 3), un(0, 1, 1), pr(0, 4, 1, 0), mp(0, 2, 1, 3), ld(0, 0, 48)},
		[]api.Answer{ok, ok, er(api.ErrMem), ok, er(api.ErrMem), er(api.ErrMem), er(api.ErrFault)})
	play(t, m, []api.Op{ld(0, 64, 2), st(0, 64, "x"), st(0, 128, "x"), ld(0, 128, 1), ld(0, 191, 2), ld(0, -1, 1), ld(0, 192, 0), ld(0, 193, 0), ld(0, 0, -1), st(0, 190, "abc"), st(0, -1, ""), st(0, 0, ""), {Kind: api.OStore, Data: make([]byte, 1<<20+1)}},
		[]api.Answer{{Data: []byte{0, 0}}, er(api.ErrFault), ok, er(api.ErrFault), er(api.ErrArg), er(api.ErrArg), ok, er(api.ErrArg), er(api.ErrArg), er(api.ErrArg), er(api.ErrArg), ok, er(api.ErrArg)})
	if got := m.Stored(0); !slices.Equal(got, []int{0, 8}) || m.Weight() != 2+3+2 {
		t.Errorf("P1803: %v, %d", got, m.Weight())
	}
	if l := m.Run(un(0, 8, 2), mp(0, 8, 2, 3), ld(0, 128, 1)); len(l) != 3 || l[2].Data[0] != 0 || len(m.Stored(0)) != 1 {
		t.Errorf("P1803: %v", l)
	}
	big, _ := New(api.Config{Page: 4096, Procs: 1, Regions: 1, Pages: 65536})
	play(t, big, []api.Op{mk(), mp(0, 0, 65536, 3), {Kind: api.OStore, At: 5, Data: make([]byte, 1<<20)}, ld(0, 1, 1<<20+1)}, []api.Answer{ok, ok, ok, er(api.ErrArg)})
	if a := big.Do(ld(0, 65535*4096-1<<20, 1<<20)); a.Err != api.OK || len(a.Data) != 1<<20 || big.Weight() != 2+257 {
		t.Errorf("P1802: %v", a.Err)
	}
}

func TestSeen(t *testing.T) { // P1803, P1804
	m := newMachine(t)
	m.Run(mk(), mp(0, 0, 2, 3), mp(0, 4, 1, 1), st(0, 3, "ab"))
	if b, ok := m.Page(0, 0); !ok || string(b[3:5]) != "ab" || len(b) != 16 {
		t.Errorf("P1803: %q", b)
	} else {
		b[3] = 'x'
	}
	if b, ok := m.Page(0, 1); !ok || !bytes.Equal(b, make([]byte, 16)) {
		t.Errorf("P1803: %q", b)
	}
	for _, at := range [][2]int{{0, 2}, {0, -1}, {1, 0}, {-1, 0}, {0, 12}} {
		if b, ok := m.Page(at[0], at[1]); ok || b != nil {
			t.Errorf("P1803: %v", at)
		}
	}
	if !slices.Equal(m.Regions(0), []api.Region{{Lo: 0, Hi: 2, Prot: 3}, {Lo: 4, Hi: 5, Prot: 1}}) || m.Regions(1) != nil || len(m.Stored(9)) != 0 {
		t.Errorf("P1803: %v", m.Regions(0))
	}
	m.Regions(0)[0].Prot = 0
	x := m.Twin()
	if !x.Same(m) || Delta(x, m) != 0 || x.Weight() != m.Weight() || x.Weight() != 4 {
		t.Error("P1803: Twin")
	}
	step := func(want int, ops ...api.Op) {
		t.Helper()
		x.Run(ops...)
		if Delta(x, m) != want || Delta(m, x) != want {
			t.Errorf("P1804: %d, %d; want %d", Delta(x, m), Delta(m, x), want)
		}
	}
	step(1, st(0, 3, "ac"))
	step(0, st(0, 3, "ab"))
	if !x.Same(m) {
		t.Error("P1803: the same bytes")
	}
	step(1, st(0, 20, "\x00"))
	if !x.Same(m) || !m.Same(x) {
		t.Error("P1803: Same passes over what is stored")
	}
	step(3, un(0, 0, 1))
	if x.Same(m) {
		t.Error("P1803: other regions")
	}
	step(2, un(0, 1, 1))
	step(2+2, fk(0))
	step(3+2, st(1, 64, "x"), pr(1, 4, 1, 2), st(1, 64, "x"))
	step(4, ex(0), ex(1))
	if x.Same(m) || x.Weight() != 0 {
		t.Error("P1803: no processes")
	}
	empty := newMachine(t)
	if !x.Same(empty) || Delta(x, empty) != 0 {
		t.Error("P1803: Same")
	}
	other := shape
	other.Page = 32
	y, _ := New(other)
	y.Run(mk())
	z := newMachine(t)
	z.Run(mk())
	if !y.Same(z) {
		t.Error("P1803: Same of no pages")
	}
	y.Run(mp(0, 0, 1, 1))
	z.Run(mp(0, 0, 1, 1))
	if y.Same(z) {
		t.Error("P1803: pages of other bytes")
	}
}

func TestTwins(t *testing.T) { // P1803, P1805: what one does the other does not see
	r := rand.New(rand.NewSource(1))
	m := newMachine(t)
	for range 3000 {
		x := m.Twin()
		ops := []api.Op{mk(), mp(r.Intn(3), r.Intn(12), 1+r.Intn(4), r.Intn(4)), un(r.Intn(3), r.Intn(12), 1+r.Intn(4)), pr(r.Intn(3), r.Intn(12), 1+r.Intn(3), 3), st(r.Intn(3), r.Intn(190), "abc"[:1+r.Intn(3)]), fk(r.Intn(3)), ex(r.Intn(3))}
		op := ops[r.Intn(len(ops))]
		w := m.Weight()
		a := x.Do(op)
		if m.Weight() != w || a.Err == api.OK && Delta(m, x) > 0 && x.Same(m) && op.Kind != api.OStore {
			t.Fatalf("P1805: %v", op)
		}
		b := m.Do(op)
		if !m.Same(x) || !reflect.DeepEqual(a, b) || Delta(m, x) != 0 {
			t.Fatalf("P3: %v: %v, %v", op, a, b)
		}
	}
}
