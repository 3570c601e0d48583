package ckpt

import (
	"testing"

	"almanac/api"
	"almanac/geom"
	"almanac/segs"
)

// TestTight plays machines of just K, far apart in their pages, with all changed between epochs: T5's edge.
func TestTight(t *testing.T) { // P2204
	wide := api.Config{Sectors: 6 + 100*6, Sector: 64, Journal: 4, Segment: 6, Page: 16, Frames: 4, Procs: 64, Regions: 32, Pages: 65536}
	big := api.Config{Sectors: 6 + 700*20, Sector: 64, Journal: 4, Segment: 20, Page: 16, Frames: 4, Procs: 64, Regions: 32, Pages: 65536}
	lone := api.Config{Sectors: 6 + 500*2, Sector: 64, Journal: 4, Segment: 2, Page: 16, Frames: 4, Procs: 64, Regions: 32, Pages: 65536}
	for i, c := range []api.Config{shapes[2], shapes[4], shapes[5], wide, big, lone} {
		if geom.Check(c) != api.OK {
			t.Fatal(i)
		}
		least := geom.Segments(c)
		for seed := range int64(6) {
			g := newGame(t, seed, c)
			for round := range 12 {
				g.fill()
				for range g.r.Intn(60) {
					g.tightRound()
				}
				if round%2 == 0 {
					for _, pid := range g.now.Pids() {
						g.do(api.Op{Kind: api.OExit, Pid: pid})
					}
				}
				least = min(least, g.m.Store().Table().Count(segs.Free))
			}
			g.again()
		}
		t.Logf("shape %d: K %d, %d segments, reserve %d, least free %d", i, geom.K(c), geom.Segments(c), newGame(t, 1, c).m.reserve(), least)
	}
}

// fill makes the machine one of weight K.
func (g *game) fill() {
	k := geom.K(g.c)
	for tries := 0; g.now.Weight() < k && tries < 3*k+30; tries++ {
		pid := 0
		if l := g.now.Pids(); len(l) > 0 {
			pid = l[g.r.Intn(len(l))]
		}
		at := g.r.Intn(g.c.Pages)
		if l := g.now.Regions(pid); len(l) > 0 {
			at = l[0].Lo + g.r.Intn(l[0].Hi-l[0].Lo)
		}
		data := make([]byte, g.c.Page)
		g.r.Read(data)
		ops := []api.Op{{Kind: api.OMake}, {Kind: api.OMap, Pid: pid, N: g.c.Pages, Prot: 3}, {Kind: api.OStore, Pid: pid, At: at * g.c.Page, Data: data}}
		n := g.r.Intn(20)
		switch {
		case len(g.now.Pids()) == 0 || n == 0:
			g.tightDo(ops[0])
		case len(g.now.Regions(pid)) == 0:
			g.tightDo(ops[1])
		default:
			g.tightDo(ops[2])
		}
	}
}

// tightDo does what leaves the machine at K.
func (g *game) tightDo(op api.Op) {
	o := g.now.Twin()
	if o.Do(op); o.Weight() <= geom.K(g.c) {
		g.do(op)
	}
}

func (g *game) tightRound() {
	switch k := g.r.Intn(30); {
	case k < 3:
		g.begin()
	case k < 10:
		g.step()
	case k < 11:
		for g.step() {
		}
		g.commit()
	case k < 13:
		if e := g.m.Evict(g.r.Intn(20)); e != api.OK {
			g.t.Fatalf("P2203: Evict: %v", e)
		}
	case k < 14 && g.r.Intn(3) == 0:
		if e := g.m.Clean(1); e != api.OK {
			g.t.Fatalf("P2203: Clean: %v", e)
		}
	case k < 15:
		l := g.now.Pids()
		if len(l) > 0 {
			g.tightDo(api.Op{Kind: api.OExit, Pid: l[g.r.Intn(len(l))]})
			g.fill()
		}
	default:
		l := g.now.Pids()
		if len(l) == 0 {
			return
		}
		pid := l[g.r.Intn(len(l))]
		if s := g.now.Stored(pid); len(s) > 0 {
			data := make([]byte, g.c.Page)
			g.r.Read(data)
			g.tightDo(api.Op{Kind: api.OStore, Pid: pid, At: s[g.r.Intn(len(s))] * g.c.Page, Data: data})
		}
	}
}

// TestScatter lays one blob that stays into each segment, among many that do not: then cleaning must put blobs anew.
func TestScatter(t *testing.T) { // P2204
	lone := api.Config{Sectors: 6 + 124*2, Sector: 64, Journal: 4, Segment: 2, Page: 16, Frames: 4, Procs: 64, Regions: 32, Pages: 65536}
	for i, c := range []api.Config{shapes[0], shapes[2], shapes[4], shapes[5], lone} {
		g := newGame(t, int64(i), c)
		g.fill()
		cleaned := uint64(0)
		for round := range 6 {
			seq := g.m.saved.Seq
			g.all(func() { g.hot() })
			g.begin()
			for g.step() {
				g.hot()
			}
			g.all(func() { g.hot() })
			cleaned += g.m.saved.Seq - seq
			g.commit()
			if round%2 == 1 {
				g.again()
			}
		}
		if !g.seen(g.m) || cleaned == 0 && i != 2 && geom.K(c) > 4 {
			t.Errorf("P2204: shape %d: cleaned %d times", i, cleaned)
		}
		t.Logf("shape %d: K %d, cleaned %d times", i, geom.K(c), cleaned)
	}
}

// all stores to each page, and puts it out of memory; between two, it does something else.
func (g *game) all(between func()) {
	for _, pid := range g.now.Pids() {
		for _, at := range g.now.Stored(pid) {
			g.store(pid, at)
			between()
		}
	}
}

func (g *game) store(pid, at int) {
	data := make([]byte, g.c.Page)
	g.r.Read(data)
	g.tightDo(api.Op{Kind: api.OStore, Pid: pid, At: at * g.c.Page, Data: data})
	if e := g.m.Evict(99); e != api.OK {
		g.t.Fatalf("P2203: Evict: %v", e)
	}
}

// hot stores to one page as often as a segment has room for.
func (g *game) hot() {
	for _, pid := range g.now.Pids() {
		if l := g.now.Stored(pid); len(l) > 0 {
			for range g.m.each() - 1 {
				g.store(pid, l[0])
			}
			return
		}
	}
}
