package ckpt

import (
	"bytes"
	"slices"

	"almanac/api"
	"almanac/entry"
	"almanac/image"
	"almanac/live"
	"almanac/super"
)

// Steps that an epoch takes at most, by what is changed. One Step saves a page, or puts eight nodes.
const (
	stepsOfSlot = 2  // it is saved, and at most six nodes lead to it
	stepsOfProc = 2  // at most thirteen nodes lead to it, and to its regions
	mostOfProcs = 20 // the nodes that lead to all processes and regions together are 150 at most
	stepsAlways = 4

	recordsLeft = 1 // of the journal, when it is cut short
)

// epoch is one that is begun: pending.
type epoch struct {
	m       *Manager
	frozen  *live.Frozen
	maker   *image.Maker
	nodes   *nodeSink
	same    map[api.Page]int // slots whose bytes are those of the saved image
	saves   int              // pages that were saved for it
	bound   int
	equal   bool // whether it is as the saved image: there is nothing to write
	written bool
}

// Save, Unchanged are the maker's keeper.
func (x *epoch) Save(id int) (api.Addr, api.Errno) {
	x.saves++
	return x.m.pager.Save(id)
}

func (x *epoch) Unchanged(pid, page int) bool {
	_, ok := x.same[api.Page{Pid: pid, N: page}]
	return ok
}

// Step is the task of writing it out: true, if some more of it was.
func (x *epoch) Step() (bool, api.Errno) {
	before := x.saves + len(x.nodes.made)
	more, e := x.maker.Step(x)
	if e != api.OK {
		return false, e
	}
	x.written = !more
	return more || x.saves+len(x.nodes.made) > before, api.OK
}

// Begin, Step, Commit are an epoch; Evict, Clean work behind it.
func (m *Manager) Begin() api.Errno {
	if m.epoch != nil {
		return api.ErrNot
	}
	if m.lost {
		return api.ErrDown
	}
	// The saved image is looked at anew, as the maker does: what both can read now is what the bound counts on.
	m.saw = nil
	x := &epoch{m: m, frozen: m.live.Freeze(), same: map[api.Page]int{}}
	slots, procs := x.compare()
	x.equal = slots+procs == 0
	x.bound = stepsOfSlot*slots + min(stepsOfProc*procs, mostOfProcs) + stepsAlways
	x.nodes = &nodeSink{to: m.put, store: m.store}
	maker, e := image.Start(m.c, x.nodes, m.saved.Root, x.frozen.Processes()...)
	if e != api.OK {
		x.frozen.Thaw()
		return e
	}
	x.maker = maker
	m.epoch = x
	return api.OK
}

// compare tells how many slots, and how many processes, of pending are not as the saved image has them.
func (x *epoch) compare() (slots, procs int) {
	saw, e := x.m.look()
	if e != api.OK {
		saw = &content{}
	}
	type had struct {
		regions []api.Region
		index   int // which process of pending it is; -1: none
	}
	old := map[int]had{}
	left := map[api.Page]api.Addr{}
	for _, p := range saw.procs {
		old[p.Pid] = had{p.Regions, -1}
		for _, s := range p.Slots {
			left[api.Page{Pid: p.Pid, N: s.Page}] = saw.pages[s.Id-1]
		}
	}
	for i, p := range x.frozen.Processes() {
		o, ok := old[p.Pid]
		if !ok || !slices.Equal(o.regions, p.Regions) {
			procs++
		}
		old[p.Pid] = had{o.regions, i}
		for _, s := range p.Slots {
			at := api.Page{Pid: p.Pid, N: s.Page}
			a, ok := left[at]
			delete(left, at)
			if ok && x.stands(s.Id, a) {
				x.same[at] = s.Id
			} else {
				slots++
			}
		}
	}
	for _, o := range old {
		if o.index < 0 {
			procs++
		}
	}
	return slots + len(left), procs
}

// stands tells whether a slot's page has the bytes that the saved image has at a.
func (x *epoch) stands(id int, a api.Addr) bool {
	where, clean := x.m.pager.Where(id)
	if clean && where == a {
		return true
	}
	// Pages that stand are read where they do: bringing them to memory could put others out of it, and nothing is written.
	var now []byte
	var e api.Errno
	if clean {
		now, e = x.m.store.Get(where)
	} else {
		now, e = x.m.pager.Read(id, 0, x.m.c.Page)
	}
	if e != api.OK {
		return false
	}
	old, e := x.m.store.Get(a)
	return e == api.OK && bytes.Equal(old, now)
}

func (m *Manager) Step() (bool, api.Errno) {
	x := m.epoch
	if x == nil {
		return false, api.ErrNot
	}
	if x.written {
		return false, api.OK
	}
	return m.work(x)
}

func (m *Manager) Commit() api.Errno {
	if m.epoch == nil || !m.epoch.written && !m.epoch.equal {
		return api.ErrNot
	}
	if m.lost {
		return api.ErrDown
	}
	if !m.epoch.written {
		if _, e := m.Step(); e != api.OK {
			return e
		}
	}
	root, _ := m.epoch.maker.Root()
	if e := m.publish(m.saved.Epoch+1, root); e != api.OK {
		return e
	}
	m.epoch.frozen.Thaw()
	m.epoch, m.saw = nil, nil
	return api.OK
}

// publish makes an image the saved one: all of it is kept, then its superblock, then a record.
func (m *Manager) publish(epoch uint64, root api.Addr) api.Errno {
	if e := m.store.Flush(); e != api.OK {
		return e
	}
	b := super.Block{Epoch: epoch, Config: m.c, Root: root, Seq: m.saved.Seq + 1}
	e := super.Write(m.d, b)
	if e == api.OK {
		e = m.journal(b)
	}
	if e != api.OK {
		m.lost = true
		return e
	}
	m.saved = b
	return api.OK
}

// journal appends a record. The last one stays till the new one is there, if both have room.
func (m *Manager) journal(b super.Block) api.Errno {
	rec := entry.Encode(b)
	for stays := uint64(recordsLeft); m.ring.Room() < len(rec); stays-- {
		if m.ring.Next()-m.ring.First() > stays {
			if e := m.ring.Truncate(m.ring.Next() - 1 - stays); e != api.OK {
				return e
			}
		}
		if stays == 0 {
			break
		}
	}
	_, e := m.ring.Append(rec)
	return e
}

func (m *Manager) Begun() bool { return m.epoch != nil }

func (m *Manager) Bound() int {
	if m.epoch == nil {
		return 0
	}
	return m.epoch.bound
}
