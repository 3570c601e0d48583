package ckpt

import (
	"cmp"
	"slices"

	"almanac/api"
	"almanac/blobs"
	"almanac/clean"
	"almanac/geom"
	"almanac/image"
	"almanac/segs"
)

// A machine of weight K takes at most three blobs for each weight: its page, and two nodes. Saved and pending are that,
// live pages one more, and those of a Store that is under way another one: eight for each. When these are put anew, as
// cleaning does, so much room more is needed: it is left to cleaning alone.
const (
	free      = segs.Free
	blobsOfK  = 8
	spare     = 3  // segments: the open ones, and one that is begun
	pageMore  = 64 // bytes that a blob of a page may have beside them
	copied    = 16 // pages that a step of cleaning puts anew
	everyLoad = 1 << 30
)

// blob tells how many sectors a blob takes at most; each how many of these a segment has room for.
func (m *Manager) blob() int { return geom.Blob(m.c, m.c.Page+pageMore) }

func (m *Manager) each() int { return m.c.Segment / m.blob() }

func (m *Manager) reserve() int {
	return (blobsOfK*geom.K(m.c)+m.each()-1)/m.each() + spare
}

// sectors tells how many sectors of each segment blobs take, each once.
func (m *Manager) sectors(l []api.Addr) map[int]int {
	used := map[int]int{}
	seen := map[api.Addr]int{}
	for i, a := range l {
		if _, ok := seen[a]; !ok {
			seen[a] = i
			used[geom.Of(m.c, a.Sector)] += blobs.Sectors(m.c, a)
		}
	}
	return used
}

// note makes the table's used what is used.
func (m *Manager) note(used map[int]int) {
	t := m.table()
	for k := range geom.Segments(m.c) {
		if t.State(k) != free {
			t.Add(k, used[k]-t.Used(k))
		}
	}
}

// ids tells the pages of the live machine and of pending.
func (m *Manager) ids() []int {
	l := m.live.Processes()
	if m.epoch != nil {
		l = append(l, m.epoch.frozen.Processes()...)
	}
	var ids []int
	for _, p := range l {
		for _, s := range p.Slots {
			ids = append(ids, s.Id)
		}
	}
	slices.Sort(ids)
	return slices.Compact(ids)
}

// standing tells where pages stand.
func (m *Manager) standing(ids []int) []api.Addr {
	var l []api.Addr
	for _, id := range ids {
		if a, ok := m.pager.Where(id); ok {
			l = append(l, a)
		}
	}
	return l
}

// sweep frees the segments in which nothing lies that anybody has.
func (m *Manager) sweep() api.Errno {
	saw, e := m.look()
	if e != api.OK {
		return e
	}
	all := append(m.standing(m.ids()), saw.all...)
	if m.epoch != nil {
		all = append(all, m.epoch.nodes.made...)
	}
	used := m.sectors(all)
	t := m.table()
	for k := range geom.Segments(m.c) {
		if t.State(k) == segs.Full && used[k] == 0 {
			t.Hold(k, 0)
		}
	}
	t.Release(0)
	m.note(used)
	return api.OK
}

// cleaning puts what lies in some segments anew: pages, then the saved image's nodes, then pending's.
type cleaning struct {
	m     *Manager
	saw   *content
	ids   []int                 // the pager's pages
	pages []api.Addr            // those that are to be put anew
	moved map[api.Addr]api.Addr // where pages lie then
	nodes *nodeSink             // of the saved image
	root  api.Addr
	maker *image.Maker // pending's
	made  *nodeSink
}

// compact cleans segments if that frees some.
func (m *Manager) compact() api.Errno { return m.cleanAll(1) }

// cleanAll cleans all segments whose pages leave room, if that frees so many at least.
func (m *Manager) cleanAll(gain int) api.Errno {
	if m.lost {
		return api.ErrDown
	}
	t, e := m.plan(gain)
	if t == nil || e != api.OK {
		return e
	}
	for more := true; more; {
		if more, e = m.work(t); e != api.OK {
			if e != api.ErrDown {
				m.sweep() // what was put anew is nobody's
			}
			return e
		}
	}
	return m.sweep()
}

// plan chooses the segments that are cleaned; none, if that would free fewer.
func (m *Manager) plan(gain int) (*cleaning, api.Errno) {
	saw, e := m.look()
	if e != api.OK {
		return nil, e
	}
	t := &cleaning{m: m, saw: saw, ids: m.ids(), moved: map[api.Addr]api.Addr{}}
	pages := append(m.standing(t.ids), saw.pages...)
	slices.SortFunc(pages, func(a, b api.Addr) int {
		return cmp.Or(cmp.Compare(a.Sector, b.Sector), cmp.Compare(a.N, b.N))
	})
	pages = slices.Compact(pages)
	nodes := len(saw.all) - len(saw.pages)
	if m.epoch != nil {
		nodes += len(m.epoch.nodes.made)
	}
	victims, takes := m.victims(pages, nodes)
	if len(victims) == 0 || len(victims)-takes < gain {
		return nil, api.OK
	}
	for _, a := range pages {
		if _, ok := victims[geom.Of(m.c, a.Sector)]; ok {
			t.pages = append(t.pages, a)
		}
	}
	return t, api.OK
}

// heap is blobs that are put one behind the other.
type heap struct {
	blobs, sectors int
}

func (h heap) with(blobs, sectors int) heap { return heap{h.blobs + blobs, h.sectors + sectors} }

// takes tells how many segments a heap takes at most. Each but the last one is filled till a blob finds no room in it: then
// it has so many blobs as it has room for at least, and less than a blob's sectors are left.
func (m *Manager) takes(h heap) int {
	filled := m.c.Segment - m.blob() + 1
	return min((h.blobs+m.each()-1)/m.each(), (h.sectors+filled-1)/filled)
}

// victims tells the segments to clean, the least used ones first, as far as there is room for what lies in them, and for
// all nodes; and how many segments these take then.
func (m *Manager) victims(pages []api.Addr, nodes int) (map[int]clean.Load, int) {
	used, count := m.sectors(pages), map[int]int{}
	for _, a := range pages {
		count[geom.Of(m.c, a.Sector)]++
	}
	t := m.table()
	var loads []clean.Load
	for k := range geom.Segments(m.c) {
		if t.State(k) == segs.Full {
			loads = append(loads, clean.Load{Segment: k, Used: min(used[k], m.c.Segment), Size: m.c.Segment})
		}
	}
	plan, _ := clean.Plan(everyLoad, loads...)
	victims := map[int]clean.Load{}
	h := heap{}.with(nodes, nodes*m.blob())
	for _, l := range plan {
		more := h.with(count[l.Segment], used[l.Segment])
		if dense := l.Size-l.Used < m.blob(); dense || m.takes(more) > t.Count(free) {
			break
		}
		h = more
		victims[l.Segment] = l
	}
	return victims, m.takes(h)
}

func (t *cleaning) Step() (bool, api.Errno) {
	switch {
	case len(t.pages) > 0:
		return true, t.copyPages()
	case t.nodes == nil:
		return true, t.remake()
	case t.m.epoch != nil && t.maker == nil:
		return true, t.again()
	}
	return false, t.finish()
}

// copyPages puts some pages anew. One that cannot be read stays where it is.
func (t *cleaning) copyPages() api.Errno {
	n := min(copied, len(t.pages))
	for _, a := range t.pages[:n] {
		b, e := t.m.store.Get(a)
		if e == api.ErrDown {
			return e
		}
		if e != api.OK {
			continue
		}
		if t.moved[a], e = t.m.store.Put(b); e != api.OK {
			return e
		}
	}
	t.pages = t.pages[n:]
	return api.OK
}

// now tells where a page lies when all is put anew.
func (t *cleaning) now(a api.Addr) api.Addr {
	if to, ok := t.moved[a]; ok {
		return to
	}
	return a
}

// places keeps an image's pages where they lie now.
type places struct {
	t *cleaning
}

func (p places) Save(id int) (api.Addr, api.Errno) { return p.t.now(p.t.saw.pages[id-1]), api.OK }

// remake puts the saved image's nodes anew.
func (t *cleaning) remake() api.Errno {
	nodes := &nodeSink{to: t.m.store.Put, store: t.m.store}
	maker, e := image.Start(t.m.c, nodes, api.Addr{}, t.saw.procs...)
	for more := true; more && e == api.OK; {
		more, e = maker.Step(places{t})
	}
	if e != api.OK {
		return e
	}
	t.root, _ = maker.Root()
	t.nodes = nodes
	return api.OK
}

// pending keeps the pages of pending where they lie now.
type pending struct {
	*epoch
	t *cleaning
}

func (p pending) Save(id int) (api.Addr, api.Errno) {
	a, e := p.epoch.Save(id)
	if e != api.OK {
		return api.Addr{}, e
	}
	return p.t.now(a), api.OK
}

// again takes the same Steps of pending on the image that was put anew: it has come as far then as it had.
func (t *cleaning) again() api.Errno {
	x := t.m.epoch
	made := &nodeSink{to: t.m.store.Put, store: t.m.store}
	maker, e := image.Start(t.m.c, made, t.root, x.frozen.Processes()...)
	for e == api.OK && !as(maker, x.maker) {
		_, e = maker.Step(pending{x, t})
	}
	if e != api.OK {
		return e
	}
	t.maker, t.made = maker, made
	return api.OK
}

// as tells whether a maker has come as far as another one.
func as(a, b *image.Maker) bool {
	_, doneA := a.Root()
	_, doneB := b.Root()
	return doneA || !doneB && a.Steps() >= b.Steps()
}

// finish makes what was put anew what counts.
func (t *cleaning) finish() api.Errno {
	m := t.m
	if t.root != m.saved.Root {
		if e := m.publish(m.saved.Epoch, t.root); e != api.OK {
			return e
		}
	}
	for _, id := range t.ids {
		if a, ok := m.pager.Where(id); ok {
			m.pager.Move(id, t.now(a))
		}
	}
	if m.epoch != nil {
		t.made.to = m.put
		m.epoch.maker, m.epoch.nodes = t.maker, t.made
	}
	saw := &content{procs: t.saw.procs, all: t.nodes.made}
	for _, a := range t.saw.pages {
		saw.pages = append(saw.pages, t.now(a))
	}
	saw.all = append(append([]api.Addr(nil), saw.all...), saw.pages...)
	m.saw = saw
	return api.OK
}
