package ckpt

import (
	"bytes"
	"math/rand"
	"slices"
	"testing"

	"almanac/api"
	"almanac/disk"
	"almanac/entry"
	"almanac/geom"
	"almanac/image"
	"almanac/model"
	"almanac/ring"
	"almanac/segs"
	"almanac/super"
)

// Shapes: K of them is 15, 1, 8, 0.
var shapes = []api.Config{
	{Sectors: 1000, Sector: 512, Journal: 8, Segment: 30, Page: 512, Frames: 8, Procs: 4, Regions: 4, Pages: 64},
	{Sectors: 6 + 32*2, Sector: 64, Journal: 4, Segment: 2, Page: 16, Frames: 4, Procs: 3, Regions: 3, Pages: 64},
	{Sectors: 6 + 16*48, Sector: 64, Journal: 4, Segment: 48, Page: 16, Frames: 4, Procs: 8, Regions: 4, Pages: 4096},
	{Sectors: 6 + 16*2, Sector: 64, Journal: 4, Segment: 2, Page: 16, Frames: 4, Procs: 3, Regions: 3, Pages: 64},
	{Sectors: 6 + 150*9, Sector: 64, Journal: 4, Segment: 9, Page: 100, Frames: 5, Procs: 6, Regions: 8, Pages: 65536},
	{Sectors: 10 + 60*40, Sector: 128, Journal: 8, Segment: 40, Page: 64, Frames: 30, Procs: 64, Regions: 32, Pages: 1000},
}

// game is a manager that is held against models.
type game struct {
	t              *testing.T
	r              *rand.Rand
	c              api.Config
	d              *disk.Disk
	m              *Manager
	now, was, next *model.Machine // live, saved, pending
	steps          int
	spaces         int
}

func newGame(t *testing.T, seed int64, c api.Config) *game {
	t.Helper()
	g := &game{t: t, r: rand.New(rand.NewSource(seed)), c: c}
	g.d, _ = disk.New(c.Sectors, c.Sector)
	m, e := New(c, g.d, super.Block{Epoch: 1, Config: c})
	if e != api.OK {
		t.Fatalf("P2201: %v", e)
	}
	g.m = m
	g.now, _ = model.New(c)
	g.was = g.now.Twin()
	return g
}

// op tells an operation; heavy ones make the machine greater.
func (g *game) op(heavy bool) api.Op {
	r, c := g.r, g.c
	op := api.Op{Kind: api.OStore, Pid: r.Intn(min(c.Procs, 4))}
	at := []int{0, c.Pages / 2, c.Pages - 9, r.Intn(c.Pages)}[r.Intn(4)]
	switch k := r.Intn(20); {
	case k == 0:
		return api.Op{Kind: api.OMake}
	case k == 1:
		return api.Op{Kind: api.OFork, Pid: op.Pid}
	case k == 2 || k == 3 && !heavy:
		return api.Op{Kind: api.OExit, Pid: op.Pid}
	case k < 6:
		return api.Op{Kind: api.OMap, Pid: op.Pid, At: at, N: 1 + r.Intn(40), Prot: 3}
	case k < 7 || k < 9 && !heavy:
		return api.Op{Kind: api.OUnmap, Pid: op.Pid, At: at, N: 1 + r.Intn(6)}
	case k < 10:
		return api.Op{Kind: api.OProtect, Pid: op.Pid, At: at, N: 1 + r.Intn(3), Prot: 2 + r.Intn(2)}
	case k < 13:
		return api.Op{Kind: api.OLoad, Pid: op.Pid, At: at * c.Page, N: r.Intn(5 * c.Page)}
	}
	op.At = at*c.Page + r.Intn(c.Page)
	op.Data = make([]byte, 1+r.Intn(3*c.Page))
	if r.Intn(4) > 0 {
		r.Read(op.Data)
	}
	return op
}

// tight tells whether T5 forbids ErrSpace.
func (g *game) tight(o *model.Machine) bool {
	k := geom.K(g.c)
	return o.Weight() <= k && g.now.Weight() <= k && g.was.Weight() <= k && (g.next == nil || g.next.Weight() <= k)
}

// may takes an error that is ErrSpace where it may come.
func (g *game) may(e api.Errno, o *model.Machine) bool {
	if e == api.ErrSpace && !g.tight(o) {
		g.spaces++
		return true
	}
	return false
}

func (g *game) do(op api.Op) {
	o := g.now.Twin()
	want := o.Do(op)
	if want.Err == api.OK && o.Weight() > geom.K(g.c) && g.r.Intn(3) > 0 {
		return // machines of a weight that T5 speaks of are what is mostly played
	}
	a := g.m.Do(op)
	if a.Err != want.Err && want.Err == api.OK && a.Pid == 0 && a.Data == nil && a.Pids == nil && g.may(a.Err, o) {
		return
	}
	if a.Err != want.Err || a.Pid != want.Pid || !bytes.Equal(a.Data, want.Data) || !slices.Equal(a.Pids, want.Pids) {
		g.t.Fatalf("P2204: %v: %v; want %v; K %d, weights %d, %d", op, a.Err, want.Err, geom.K(g.c), g.now.Weight(), g.was.Weight())
	}
	g.now = o
}

func (g *game) begin() {
	e := g.m.Begin()
	if g.next != nil {
		if e != api.ErrNot {
			g.t.Fatalf("P2202: Begin: %v", e)
		}
		return
	}
	if e != api.OK || !g.m.Begun() {
		g.t.Fatalf("P2202: Begin: %v", e)
	}
	g.next, g.steps = g.now.Twin(), 0
	if n := model.Delta(g.next, g.was); g.m.Bound() > 8*n+64 {
		g.t.Fatalf("P2204: Bound %d of %d", g.m.Bound(), n)
	}
}

func (g *game) step() bool {
	more, e := g.m.Step()
	if g.next == nil {
		if more || e != api.ErrNot || g.m.Bound() != 0 {
			g.t.Fatalf("P2202: Step: %v", e)
		}
		return false
	}
	if e != api.OK && !g.may(e, g.now) {
		g.t.Fatalf("P2204: Step: %v", e)
	}
	if more {
		g.steps++
	}
	if g.steps > g.m.Bound() {
		g.t.Fatalf("P2204: %d steps, Bound %d", g.steps, g.m.Bound())
	}
	return more && e == api.OK
}

func (g *game) commit() {
	epoch := g.m.Epoch()
	e := g.m.Commit()
	if e == api.ErrNot || g.next == nil {
		if e != api.ErrNot || g.m.Epoch() != epoch {
			g.t.Fatalf("P2202: Commit: %v", e)
		}
		return
	}
	if e != api.OK || g.m.Epoch() != epoch+1 || g.m.Begun() || g.m.Bound() != 0 {
		g.t.Fatalf("P2202: Commit: %v", e)
	}
	g.was, g.next = g.next, nil
}

// seen tells the machine that a manager's live one is.
func (g *game) seen(m *Manager) bool {
	for _, pid := range g.now.Pids() {
		for _, x := range g.now.Regions(pid) {
			for at := x.Lo; at < x.Hi; at += 1 + g.r.Intn(1+(x.Hi-x.Lo)/64) {
				want, _ := g.now.Page(pid, at)
				a := m.Do(api.Op{Kind: api.OLoad, Pid: pid, At: at * g.c.Page, N: g.c.Page})
				if x.Prot&1 == 1 && (a.Err != api.OK || !bytes.Equal(a.Data, want)) {
					return false
				}
			}
		}
	}
	for _, p := range m.Live().Processes() {
		for _, s := range p.Slots {
			want, _ := g.now.Page(p.Pid, s.Page)
			b, e := m.pager.Read(s.Id, 0, g.c.Page)
			if e != api.OK || !bytes.Equal(b, want) {
				return false
			}
		}
	}
	return slices.Equal(m.Do(api.Op{Kind: api.OList}).Pids, g.now.Pids()) && m.Live().Weight() == g.now.Weight()
}

// again tells a manager of what the disk holds.
func (g *game) again() {
	g.d.Cut()
	g.d.On()
	b, e := super.Read(g.d)
	if e == api.ErrCorrupt && g.m.Epoch() == 1 {
		b, e = g.m.saved, api.OK
	}
	m, e2 := New(g.c, g.d, b)
	if e != api.OK || e2 != api.OK || m.Epoch() != g.m.Epoch() {
		g.t.Fatalf("P2201: %v, %v", e, e2)
	}
	at, n := geom.Journal(g.c)
	_, l, err := ring.Open(g.d, at, n)
	if err != nil || !bytes.Equal(l[len(l)-1], entry.Encode(b)) {
		g.t.Fatalf("P2202: the journal: %v", err)
	}
	g.m, g.now, g.next = m, g.was.Twin(), nil
	if !g.seen(m) {
		g.t.Fatal("P2201: another machine")
	}
}

func (g *game) round(heavy bool) {
	switch k := g.r.Intn(40); {
	case k < 24:
		g.do(g.op(heavy))
	case k < 26:
		g.begin()
	case k < 32:
		g.step()
	case k < 34:
		for g.step() {
		}
		g.commit()
	case k < 36:
		if e := g.m.Evict(g.r.Intn(20)); e != api.OK && !g.may(e, g.now) {
			g.t.Fatalf("P2203: Evict: %v", e)
		}
	case k < 38:
		if e := g.m.Clean(g.r.Intn(3)); e != api.OK && !g.may(e, g.now) {
			g.t.Fatalf("P2203: Clean: %v", e)
		}
	case k < 39 && g.r.Intn(4) == 0:
		g.again()
	case k < 40 && g.r.Intn(4) == 0:
		if !g.seen(g.m) && !g.mayNotSee() {
			g.t.Fatal("P2204: another machine")
		}
	}
}

// mayNotSee tells whether loads may have had no room.
func (g *game) mayNotSee() bool { return !g.tight(g.now) }

func TestGames(t *testing.T) { // P2201 to P2204
	for i, c := range shapes {
		if geom.Check(c) != api.OK {
			t.Fatal(i)
		}
		spaces := 0
		for seed := range int64(25) {
			g := newGame(t, seed, c)
			for n := range 1200 {
				g.round(n/200%2 == 0)
			}
			spaces += g.spaces
		}
		t.Logf("shape %d: K %d; ErrSpace %d times", i, geom.K(c), spaces)
	}
}

func TestNew(t *testing.T) { // P2201
	c := shapes[0]
	d, _ := disk.New(c.Sectors, c.Sector)
	less, _ := disk.New(c.Sectors-1, c.Sector)
	wrong := c
	wrong.Procs = 0
	other := c
	other.Procs++
	for i, f := range []func() (*Manager, api.Errno){
		func() (*Manager, api.Errno) { return New(wrong, d, super.Block{Config: wrong}) },
		func() (*Manager, api.Errno) { return New(c, less, super.Block{Config: c}) },
		func() (*Manager, api.Errno) { return New(c, d, super.Block{Config: other}) },
	} {
		if m, e := f(); m != nil || e != api.ErrArg {
			t.Errorf("P2201: %d: %v", i, e)
		}
	}
	if m, e := New(c, d, super.Block{Epoch: 4, Config: c, Root: api.Addr{Sector: 10, N: 30}}); m != nil || e != api.ErrCorrupt {
		t.Errorf("P2201: %v", e)
	}
	d.Cut()
	if m, e := New(c, d, super.Block{Epoch: 4, Config: c}); m != nil || e != api.ErrDown {
		t.Errorf("P2201: %v", e)
	}
	d.On()
	m, e := New(c, d, super.Block{Epoch: 4, Config: c})
	if e != api.OK || m.Epoch() != 4 || m.Begun() || m.Bound() != 0 || m.Live().Weight() != 0 || m.Store().Table().Count(segs.Free) != 33 {
		t.Errorf("P2201: %v", e)
	}
	m.Begin()
	w := d.Writes()
	if m.Bound() == 0 || d.Writes() != w {
		t.Error("P2202: Begin writes")
	}
}

func TestCorrupt(t *testing.T) { // P2202, P2204: a page that cannot be read
	c := shapes[0]
	d, _ := disk.New(c.Sectors, c.Sector)
	m, _ := New(c, d, super.Block{Epoch: 1, Config: c})
	m.Do(api.Op{Kind: api.OMake})
	m.Do(api.Op{Kind: api.OMap, N: 10, Prot: 3})
	for at := range 10 {
		m.Do(api.Op{Kind: api.OStore, At: at * c.Page, Data: []byte{byte(at + 1)}})
	}
	full := func() {
		m.Begin()
		bound := m.Bound()
		for {
			more, e := m.Step()
			if e != api.OK {
				t.Fatalf("P2202: %v", e)
			}
			if !more {
				break
			}
			if bound--; bound < 0 {
				t.Fatal("P2204: Bound")
			}
		}
		if e := m.Commit(); e != api.OK {
			t.Fatalf("P2202: %v", e)
		}
	}
	full()
	m.Evict(99)
	_, at, _ := image.Load(c, m.Store(), m.saved.Root)
	d.Burst(at[3].Sector, 9, 1)
	for i := range 10 {
		a := m.Do(api.Op{Kind: api.OLoad, At: i * c.Page, N: 1})
		if i == 3 && (a.Err != api.ErrCorrupt || a.Data != nil) || i != 3 && (a.Err != api.OK || a.Data[0] != byte(i+1)) {
			t.Errorf("P2204: %d: %v", i, a)
		}
	}
	full()
	if e := m.Clean(1); e != api.OK {
		t.Errorf("P2203: %v", e)
	}
	d.Burst(m.saved.Root.Sector, 5, 1)
	if a := m.Do(api.Op{Kind: api.OStore, At: 4 * c.Page, Data: []byte("new")}); a.Err != api.OK {
		t.Errorf("P2202: %v", a.Err)
	}
	m.saw = nil
	if e := m.Clean(1); e != api.ErrCorrupt {
		t.Errorf("P2203: the saved image cannot be read: %v", e)
	}
	full()
	if e := m.Clean(1); e != api.OK {
		t.Errorf("P2203: it is another image: %v", e)
	}
	if a := m.Do(api.Op{Kind: api.OLoad, At: 4 * c.Page, N: 3}); string(a.Data) != "new" {
		t.Errorf("P2204: %v", a)
	}
}

func TestUnchanged(t *testing.T) { // P2204: what was stored and is the same is no change
	c := shapes[5]
	c.Sectors = 65536
	d, _ := disk.New(c.Sectors, c.Sector)
	m, _ := New(c, d, super.Block{Epoch: 1, Config: c})
	m.Do(api.Op{Kind: api.OMake})
	m.Do(api.Op{Kind: api.OMap, N: 1000, Prot: 3})
	data := make([]byte, 64000)
	rand.New(rand.NewSource(1)).Read(data)
	store := func() {
		if a := m.Do(api.Op{Kind: api.OStore, Data: data}); a.Err != api.OK {
			t.Fatal(a.Err)
		}
	}
	full := func() (steps int) {
		m.Begin()
		for {
			more, e := m.Step()
			if e != api.OK {
				t.Fatal(e)
			}
			if !more {
				break
			}
			steps++
		}
		if e := m.Commit(); e != api.OK {
			t.Fatal(e)
		}
		return steps
	}
	store()
	if n := full(); n < 1000 {
		t.Errorf("%d steps", n)
	}
	m.Do(api.Op{Kind: api.OStore, Data: make([]byte, 64000)})
	store()
	m.Do(api.Op{Kind: api.OUnmap, At: 5, N: 500})
	m.Do(api.Op{Kind: api.OMap, At: 5, N: 500, Prot: 3})
	store()
	m.Begin()
	if m.Bound() > 64 {
		t.Errorf("P2204: Bound %d", m.Bound())
	}
	m.Clean(1)
	bound := m.Bound()
	for n := 0; ; n++ {
		more, e := m.Step()
		if e != api.OK || n > bound {
			t.Fatalf("P2204: %v, %d", e, n)
		}
		if !more {
			break
		}
		m.Clean(1)
	}
	if e := m.Commit(); e != api.OK {
		t.Fatal(e)
	}
	d.Cut()
	d.On()
	b, _ := super.Read(d)
	m, e := New(c, d, b)
	if e != api.OK {
		t.Fatal(e)
	}
	if a := m.Do(api.Op{Kind: api.OLoad, N: 64000}); !bytes.Equal(a.Data, data) {
		t.Error("P2204: other bytes")
	}
}

func TestCommitAtOnce(t *testing.T) { // P2202: Commit is refused where Step would not tell false
	c := shapes[0]
	d, _ := disk.New(c.Sectors, c.Sector)
	m, _ := New(c, d, super.Block{Epoch: 1, Config: c})
	m.Begin()
	if e := m.Commit(); e != api.OK || m.Epoch() != 2 {
		t.Errorf("P2202: nothing is to be written: %v", e)
	}
	m.Do(api.Op{Kind: api.OMake})
	m.Begin()
	if e := m.Commit(); e != api.ErrNot || m.Epoch() != 2 || !m.Begun() {
		t.Errorf("P2202: %v", e)
	}
	w := m.Store().Left()
	for {
		more, e := m.Step()
		if e != api.OK || more != (m.Store().Left() < w) {
			t.Fatalf("P2202: Step: %v, %v", more, e)
		}
		if w = m.Store().Left(); !more {
			break
		}
	}
	if e := m.Commit(); e != api.OK || m.Epoch() != 3 {
		t.Errorf("P2202: %v", e)
	}
}

func TestCleanFrees(t *testing.T) { // P2203
	c := shapes[2]
	g := newGame(t, 1, c)
	g.do(api.Op{Kind: api.OMake})
	g.do(api.Op{Kind: api.OMap, N: 6, Prot: 3})
	for n := range 120 {
		g.do(api.Op{Kind: api.OStore, At: n % 6 * 16, Data: []byte{byte(n), 2, 3}})
		if n%10 == 0 {
			g.m.Begin()
			for more := true; more; {
				more, _ = g.m.Step()
			}
			g.m.Commit()
			g.was = g.now.Twin()
		}
		g.m.Evict(9)
	}
	table := g.m.Store().Table()
	before := table.Count(segs.Free)
	w := g.d.Writes()
	if g.m.Clean(0) != api.OK || g.m.Clean(-1) != api.OK || g.d.Writes() != w {
		t.Error("P2203: Clean of none")
	}
	if g.m.Clean(3) != api.OK || table.Count(segs.Free) <= before || table.Count(segs.Free) < 14 {
		t.Errorf("P2203: %d free; then %d", before, table.Count(segs.Free))
	}
	if !g.seen(g.m) {
		t.Error("P2203: another machine")
	}
	g.again()
	g.d.Cut()
	if g.m.Clean(1) != api.ErrDown || g.m.Clean(0) != api.OK {
		t.Error("P2203: down")
	}
}
