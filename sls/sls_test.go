package sls

import (
	"bytes"
	"math/rand"
	"slices"
	"testing"

	"almanac/api"
	"almanac/boot"
	"almanac/disk"
	"almanac/doubt"
	"almanac/geom"
	"almanac/model"
)

var shapes = []api.Config{
	{Sectors: 1000, Sector: 512, Journal: 8, Segment: 30, Page: 512, Frames: 8, Procs: 4, Regions: 4, Pages: 64},
	{Sectors: 6 + 32*2, Sector: 64, Journal: 4, Segment: 2, Page: 16, Frames: 4, Procs: 3, Regions: 3, Pages: 64},
	{Sectors: 6 + 16*48, Sector: 64, Journal: 4, Segment: 48, Page: 16, Frames: 4, Procs: 8, Regions: 4, Pages: 4096},
	{Sectors: 6 + 150*9, Sector: 64, Journal: 4, Segment: 9, Page: 100, Frames: 5, Procs: 6, Regions: 8, Pages: 65536},
}

// play is a store that is held against what may be.
type play struct {
	t       *testing.T
	r       *rand.Rand
	s       *Store
	d       *doubt.State
	pending *model.Machine
	burst   bool // whether bytes have rotted: then ErrCorrupt may come, too
}

func start(t *testing.T, seed int64, c api.Config) *play {
	t.Helper()
	s, e := New(c)
	if e != api.OK || s.Down() || s.Epoch() != 1 || s.Weight() != 0 || s.Bound() != 0 || s.Config() != c {
		t.Fatalf("P2401: %v", e)
	}
	d, _ := doubt.New(c)
	return &play{t: t, r: rand.New(rand.NewSource(seed)), s: s, d: d}
}

// see tells whether the live machine is a model's.
func (p *play) see(m *model.Machine) bool {
	var pids []int
	for _, x := range p.s.m.Live().Processes() {
		pids = append(pids, x.Pid)
		var places []int
		for _, y := range x.Slots {
			places = append(places, y.Page)
		}
		if !slices.Equal(x.Regions, m.Regions(x.Pid)) || !slices.Equal(places, m.Stored(x.Pid)) {
			return false
		}
		for _, r := range x.Regions {
			for _, at := range append(places, r.Lo, r.Hi-1) {
				if at < r.Lo || at >= r.Hi || r.Prot&api.Read == 0 {
					continue
				}
				c := p.s.Config()
				want, _ := m.Page(x.Pid, at)
				a := p.s.Move(Move{Kind: Do, Op: api.Op{Kind: api.OLoad, Pid: x.Pid, At: at * c.Page, N: c.Page}})
				if a.Err == api.ErrSpace && m.Weight() > geom.K(c) || a.Err == api.ErrDown && p.s.Disk().Off() {
					continue
				}
				if a.Err == api.ErrCorrupt && p.burst {
					continue
				}
				if a.Err != api.OK || !bytes.Equal(a.Data, want) {
					return false
				}
			}
		}
	}
	return slices.Equal(pids, m.Pids()) && (p.s.Disk().Off() || p.s.Weight() == m.Weight())
}

func (p *play) keep() []bool {
	l := make([]bool, p.r.Intn(20))
	for i := range l {
		l[i] = p.r.Intn(2) == 0
	}
	return l
}

func (p *play) op() api.Op {
	r, c := p.r, p.s.Config()
	pid := r.Intn(min(c.Procs, 3))
	at := []int{0, c.Pages / 2, c.Pages - 9, r.Intn(c.Pages)}[r.Intn(4)]
	switch k := r.Intn(24); {
	case k == 0:
		return api.Op{Kind: api.OMake}
	case k == 1:
		return api.Op{Kind: api.OFork, Pid: pid}
	case k == 2:
		return api.Op{Kind: api.OExit, Pid: pid}
	case k < 6:
		return api.Op{Kind: api.OMap, Pid: pid, At: at, N: 1 + r.Intn(30), Prot: 3}
	case k == 6:
		return api.Op{Kind: api.OUnmap, Pid: pid, At: at, N: 1 + r.Intn(6)}
	case k == 7:
		return api.Op{Kind: api.OProtect, Pid: pid, At: at, N: 1 + r.Intn(3), Prot: r.Intn(4)}
	case k == 8:
		return api.Op{Kind: api.OList}
	case k == 9:
		return api.Op{Kind: r.Intn(12), Pid: pid, At: at}
	case k < 13:
		return api.Op{Kind: api.OLoad, Pid: pid, At: at * c.Page, N: r.Intn(5 * c.Page)}
	}
	b := make([]byte, 1+r.Intn(3*c.Page))
	if r.Intn(4) > 0 {
		r.Read(b)
	}
	return api.Op{Kind: api.OStore, Pid: pid, At: at*c.Page + r.Intn(c.Page), Data: b}
}

// tight tells whether T5 forbids ErrSpace.
func (p *play) tight(more ...*model.Machine) bool {
	k := geom.K(p.s.Config())
	saved, _ := p.d.Saved()
	for _, m := range append(more, saved, p.d.Live(), p.pending) {
		if m != nil && m.Weight() > k {
			return false
		}
	}
	return true
}

// fail tells whether an error is one of a disk that has no room, no power, or has rotted.
func (p *play) fail(a Answer, what string) bool {
	switch {
	case a.Err == api.ErrSpace && !p.tight(), a.Err == api.ErrCorrupt && p.burst:
		return true
	case a.Err == api.ErrDown && p.s.Disk().Off():
		p.d.Cut()
		return true
	}
	if a.Err != api.OK {
		p.t.Fatalf("%s: %v, off %v", what, a.Err, p.s.Disk().Off())
	}
	return false
}

func (p *play) do() {
	op := p.op()
	live := p.d.Live().Twin()
	live.Do(op)
	if live.Weight() > geom.K(p.s.Config()) && p.r.Intn(5) > 0 {
		return
	}
	a := p.s.Move(Move{Kind: Do, Op: op})
	if a.Err == api.ErrCorrupt && p.burst || a.Err == api.ErrSpace && p.tight(live) {
		if a.Err == api.ErrSpace {
			p.t.Fatalf("T5: %v", op)
		}
		return
	}
	if p.d.Do(op, a.Answer) != doubt.Fine || a.More || a.Epoch != 0 {
		p.t.Fatalf("T1: %v: %v", op, a.Err)
	}
	if a.Err == api.ErrDown {
		p.fail(a, "Do")
	}
}

func (p *play) epoch() {
	switch p.r.Intn(8) {
	case 0, 1:
		a := p.s.Move(Move{Kind: Begin})
		if p.d.Begin(a.Err) != doubt.Fine {
			p.t.Fatalf("P2202: Begin: %v", a.Err)
		}
		if a.Err == api.OK {
			p.pending = p.d.Live()
			saved, _ := p.d.Saved()
			if n := model.Delta(p.pending, saved); p.s.Bound() > 8*n+64 && !p.burst {
				p.t.Fatalf("T6: Bound %d of %d", p.s.Bound(), n)
			}
		}
	case 2, 3, 4:
		for range 1 + p.r.Intn(6) {
			a := p.s.Move(Move{Kind: Step})
			if !p.d.Begun() {
				if a.Err != api.ErrNot && a.Err != api.ErrDown {
					p.t.Fatalf("P2202: Step: %v", a.Err)
				}
				return
			}
			if p.fail(a, "Step") || !a.More {
				return
			}
		}
	case 5, 6:
		a := p.s.Move(Move{Kind: Commit})
		p.commit(a)
	case 7:
		if !p.d.Begun() {
			p.d.Begin(api.OK)
			p.pending = p.d.Live()
		}
		a := p.s.Move(Move{Kind: Full})
		if a.Err == api.ErrNot {
			p.t.Fatal("T6: Full")
		}
		p.commit(a)
	}
}

func (p *play) commit(a Answer) {
	if a.Err == api.ErrCorrupt && p.burst {
		return
	}
	if a.Err == api.ErrSpace && p.tight() {
		p.t.Fatal("T5: commit")
	}
	off := p.s.Disk().Off()
	if p.d.Commit(a.Err, a.Epoch, off) != doubt.Fine || a.More {
		p.t.Fatalf("P2202: Commit: %v, %d, %v", a.Err, a.Epoch, off)
	}
	if a.Err == api.OK {
		p.pending = nil
	}
}

// reboot takes the power away, if it is on, and comes back.
func (p *play) reboot() {
	if p.s.Disk().Off() && p.r.Intn(3) == 0 {
		p.s.Move(Move{Kind: Arm, N: 1 + p.r.Intn(3), Keep: p.keep()})
	}
	a := p.s.Move(Move{Kind: Boot, Keep: p.keep()})
	if a.Err == api.ErrCorrupt && p.burst {
		return
	}
	k := p.d.Boot(a.Err, a.Epoch, p.s.Disk().Off(), p.see)
	if k != doubt.Fine {
		p.t.Fatalf("T2: %v, epoch %d", a.Err, a.Epoch)
	}
	p.pending = nil
	if p.s.Disk().Off() { // it went while the machine was looked at
		p.d.Cut()
	}
}

func (p *play) round() {
	if p.s.Down() {
		for _, k := range []int{Do, Begin, Step, Commit, Evict, Clean, Full} {
			if a := p.s.Move(Move{Kind: k, N: 1, Op: api.Op{Kind: api.OList}}); a.Err != api.ErrDown || a.More || a.Epoch != 0 || a.Pids != nil {
				p.t.Fatalf("P2401: down: %v", a)
			}
		}
		if p.s.Epoch() != 0 || p.s.Bound() != 0 || p.s.Weight() != 0 || p.s.Config() == (api.Config{}) {
			p.t.Fatal("P2402: down")
		}
		p.reboot()
		return
	}
	switch k := p.r.Intn(60); {
	case k < 35:
		p.do()
	case k < 48:
		p.epoch()
	case k < 51:
		p.fail(p.s.Move(Move{Kind: Evict, N: p.r.Intn(12)}), "Evict")
	case k < 54:
		p.fail(p.s.Move(Move{Kind: Clean, N: p.r.Intn(3)}), "Clean")
	case k < 56:
		p.s.Move(Move{Kind: Arm, N: 1 + p.r.Intn(25), Keep: p.keep()})
	case k < 57:
		p.reboot()
	case k < 58:
		if !p.see(p.d.Live()) {
			p.t.Fatal("T1: another machine")
		}
		if p.s.Disk().Off() {
			p.d.Cut()
		}
	}
}

func TestPlays(t *testing.T) { // P2403: T1, T2, T3, T5, T6
	for i, c := range shapes {
		for seed := range int64(30) {
			p := start(t, seed*7+int64(i), c)
			for range 600 {
				p.round()
			}
		}
	}
}

func TestRot(t *testing.T) { // P2403: T4
	for i, c := range shapes {
		for seed := range int64(40) {
			p := start(t, seed*5+int64(i), c)
			for range 200 {
				p.round()
			}
			if p.s.Down() {
				p.reboot()
			}
			if p.s.Down() {
				continue
			}
			m := Move{Kind: Burst, A: p.r.Intn(c.Sectors), B: p.r.Intn(c.Sector * 8), N: p.r.Int()}
			if p.r.Intn(3) == 0 {
				m.A = p.r.Intn(2 + c.Journal)
			}
			if a := p.s.Move(m); a.Err != api.OK {
				t.Fatalf("P2401: Burst: %v", a.Err)
			}
			p.burst = true
			for range 300 {
				p.round()
				if p.s.Down() {
					if a := p.s.Move(Move{Kind: Boot}); a.Err == api.ErrCorrupt {
						break
					} else if !p.s.Down() && p.d.Boot(a.Err, a.Epoch, false, p.see) != doubt.Fine {
						t.Fatalf("T4: %v, %d", a.Err, a.Epoch)
					}
				}
			}
		}
	}
}

func TestNewOf(t *testing.T) { // P2401
	wrong := shapes[0]
	wrong.Frames = 3
	if s, e := New(wrong); s != nil || e != api.ErrArg {
		t.Errorf("P2401: %v", e)
	}
	if s, e := Of(make([]byte, 100), 64); s != nil || e != api.ErrArg {
		t.Errorf("P2401: %v", e)
	}
	s, e := Of(make([]byte, 6400), 64)
	if e != api.OK || !s.Down() || s.Disk().Off() || s.Config() != (api.Config{}) {
		t.Fatalf("P2401: %v", e)
	}
	for _, k := range []int{Do, Begin, Step, Commit, Evict, Clean, Full} {
		if a := s.Move(Move{Kind: k}); a.Err != api.ErrDown {
			t.Errorf("P2401: %d: %v", k, a.Err)
		}
	}
	if a := s.Move(Move{Kind: Boot}); a.Err != api.ErrCorrupt || !s.Down() || s.Disk().Off() {
		t.Errorf("P2401: %v", a.Err)
	}
	for _, k := range []int{0, 11, -1, 1 << 40} {
		if a := s.Move(Move{Kind: k}); a.Err != api.ErrArg {
			t.Errorf("P2401: %d: %v", k, a.Err)
		}
	}
	for _, m := range []Move{{Kind: Burst, A: 100}, {Kind: Burst, A: -1}, {Kind: Burst, B: -1}} {
		if a := s.Move(m); a.Err != api.ErrArg {
			t.Errorf("P2401: %v: %v", m, a.Err)
		}
	}
	x, _ := New(shapes[1])
	x.Move(Move{Kind: Do, Op: api.Op{Kind: api.OMake}})
	if a := x.Move(Move{Kind: Full}); a.Err != api.OK || a.Epoch != 2 {
		t.Errorf("P2401: Full: %v, %d", a.Err, a.Epoch)
	}
	s, _ = Of(x.Disk().Bytes(), 64)
	l := s.Play(Move{Kind: Boot}, Move{Kind: Do, Op: api.Op{Kind: api.OList}}, Move{Kind: Step}, Move{Kind: Commit}, Move{Kind: Do, Op: api.Op{Kind: api.OMake}}, Move{Kind: Begin}, Move{Kind: Begin}, Move{Kind: Commit}, Move{Kind: Full}, Move{Kind: Begin}, Move{Kind: Step}, Move{Kind: Commit})
	want := []Answer{{Epoch: 2}, {Answer: api.Answer{Pids: []int{0}}}, wrongly(api.ErrNot), wrongly(api.ErrNot), {Answer: api.Answer{Pid: 1}}, {}, wrongly(api.ErrNot), wrongly(api.ErrNot), {Epoch: 3}, {}, {}, {Epoch: 4}}
	for i, a := range l {
		if a.Pid != want[i].Pid || a.Err != want[i].Err || a.Epoch != want[i].Epoch || a.More || !slices.Equal(a.Pids, want[i].Pids) {
			t.Errorf("P2402: %d: %v; want %v", i, a, want[i])
		}
	}
	if s.Config() != shapes[1] || s.Weight() != 2 || s.Epoch() != 4 || s.Down() {
		t.Error("P2402")
	}
	_, size := s.Disk().Shape()
	if size != 64 || len(s.Play()) != 0 {
		t.Error("P2402: Disk, Play")
	}
}

func wrongly(e api.Errno) Answer { return Answer{Answer: api.Answer{Err: e}} }

func TestArmedBoot(t *testing.T) { // P2401: what is armed without power stays so
	s, _ := New(shapes[0])
	s.Move(Move{Kind: Do, Op: api.Op{Kind: api.OMake}})
	s.Move(Move{Kind: Begin})
	for s.Move(Move{Kind: Step}).More {
	}
	s.Move(Move{Kind: Arm, N: 2}) // the superblock is written, its record is not
	if a := s.Move(Move{Kind: Commit}); a.Err != api.ErrDown || !s.Down() {
		t.Errorf("P2401: %v", a.Err)
	}
	s.Move(Move{Kind: Arm, N: 1})
	if a := s.Move(Move{Kind: Boot}); a.Err != api.ErrDown || !s.Down() || !s.Disk().Off() {
		t.Errorf("P2401: %v", a.Err)
	}
	if a := s.Move(Move{Kind: Boot}); a.Err != api.OK || a.Epoch != 2 {
		t.Errorf("P2401: %v, %d", a.Err, a.Epoch)
	}
	s.Move(Move{Kind: Arm, N: 1})
	if a := s.Move(Move{Kind: Boot}); a.Err != api.OK || a.Epoch != 2 {
		t.Errorf("P2401: what was armed is no more: %v", a.Err)
	}
	if a := s.Move(Move{Kind: Full}); a.Err != api.OK {
		t.Errorf("P2401: %v", a.Err)
	}
	if b, err := boot.Peek(s.Disk()); err != nil || b.Epoch != 3 {
		t.Errorf("%v", err)
	}
}

func TestAnyDisk(t *testing.T) { // P2403: T4
	s, _ := New(shapes[1])
	s.Play(Move{Kind: Do, Op: api.Op{Kind: api.OMake}}, Move{Kind: Do, Op: api.Op{Kind: api.OMap, N: 9, Prot: 3}}, Move{Kind: Do, Op: api.Op{Kind: api.OStore, Data: make([]byte, 40)}}, Move{Kind: Full})
	good := s.Disk().Bytes()
	for seed := range int64(1500) {
		r := rand.New(rand.NewSource(seed))
		b := bytes.Clone(good)
		for range 1 + r.Intn(6) {
			at, from := r.Intn(len(b)/64)*64, r.Intn(len(b)/64)*64
			if r.Intn(2) == 0 {
				copy(b[at:at+64], good[from:from+64])
			} else {
				b[at+r.Intn(64)] ^= byte(1 + r.Intn(255))
			}
		}
		x, _ := Of(b, 64)
		x.Move(Move{Kind: Boot})
		for range 30 {
			a := x.Move(Move{Kind: 1 + r.Intn(10), N: r.Intn(9), Op: api.Op{Kind: 1 + r.Intn(9), Pid: r.Intn(2), At: r.Intn(60)}})
			if a.Err != api.OK && (a.Pid != 0 || a.Data != nil || a.Pids != nil || a.More || a.Epoch != 0) {
				t.Fatalf("P4: %v", a)
			}
		}
	}
	if d, _ := disk.New(100, 64); d == nil {
		t.Error("disk")
	}
}

// calm does something that neither arms a write nor takes the power away.
func (p *play) calm() {
	switch k := p.r.Intn(10); {
	case k < 5:
		p.do()
	case k < 8:
		p.epoch()
	case k < 9:
		p.fail(p.s.Move(Move{Kind: Evict, N: p.r.Intn(12)}), "Evict")
	default:
		p.fail(p.s.Move(Move{Kind: Clean, N: 1}), "Clean")
	}
}

func TestEveryCut(t *testing.T) { // P2403: T2, at each write of a script
	for i, c := range shapes {
		for n := 1; ; n++ {
			p := start(t, int64(i+1), c)
			keep := make([]bool, 64)
			for k := range keep {
				keep[k] = n%3 == 1 || n%3 == 2 && (k+n)%2 == 0
			}
			p.s.Move(Move{Kind: Arm, N: n, Keep: keep})
			for _, op := range []api.Op{{Kind: api.OMake}, {Kind: api.OMap, N: 12, Prot: 3}, {Kind: api.OMake}, {Kind: api.OMap, Pid: 1, N: 12, Prot: 3}} {
				p.d.Do(op, p.s.Move(Move{Kind: Do, Op: op}).Answer)
			}
			for round := 0; round < 250 && !p.s.Down(); round++ {
				p.calm()
			}
			if !p.s.Down() {
				t.Logf("shape %d: %d writes", i, n-1)
				break // the script has fewer writes
			}
			for cut := 1; p.s.Down(); cut++ { // so is the recovery, at each of its writes
				p.s.Move(Move{Kind: Arm, N: cut, Keep: keep})
				a := p.s.Move(Move{Kind: Boot})
				off := p.s.Disk().Off()
				if !off {
					p.s.Disk().Arm(1 << 40)
				}
				if p.d.Boot(a.Err, a.Epoch, off, p.see) != doubt.Fine {
					t.Fatalf("T2: shape %d, write %d: %v, epoch %d", i, n, a.Err, a.Epoch)
				}
			}
			p.pending = nil
			for range 20 {
				p.calm()
			}
		}
	}
}
