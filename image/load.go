package image

import (
	"cmp"
	"slices"

	"almanac/api"
	"almanac/blobs"
	"almanac/codec"
	"almanac/live"
	"almanac/rules"
	"almanac/space"
	"almanac/twig"
)

// reading is an image that is read.
type reading struct {
	c     api.Config
	nodes []api.Addr
	procs []live.Process
	has   []int // how many regions each is to have
	pages []api.Addr
	ids   map[api.Addr]int
}

// read tells what an image has: its keys come rising, so processes ahead of their regions, and these ahead of slots.
func read(c api.Config, s blobs.Sink, root api.Addr) (*reading, api.Errno) {
	if !rules.Model(c) {
		return nil, api.ErrArg
	}
	r := &reading{c: c, ids: map[api.Addr]int{}}
	whole := true
	e := twig.Open(s, root).Walk(false, func(at api.Addr) bool {
		r.nodes = append(r.nodes, at)
		return true
	}, func(key int, v []byte) bool {
		whole = r.take(key, v)
		return whole
	})
	if e != api.OK {
		return nil, e
	}
	if !whole || !r.right() {
		return nil, api.ErrCorrupt
	}
	return r, api.OK
}

// take takes a key and its value; false, if no image has it.
func (r *reading) take(key int, v []byte) bool {
	switch {
	case key < regionKeys:
		return r.takeProcess(key, v)
	case key < slotKeys:
		x, ok := r.process(pidOf(key, regionKeys, indexBits))
		reg, right := regionOf(v)
		if !ok || !right || restOf(key, indexBits) != len(x.Regions) {
			return false
		}
		x.Regions = append(x.Regions, reg)
	default:
		x, ok := r.process(pidOf(key, slotKeys, pageBits))
		at, right := addrOf(v)
		if !ok || !right {
			return false
		}
		x.Slots = append(x.Slots, space.Slot{Page: restOf(key, pageBits), Id: r.id(at)})
	}
	return true
}

func (r *reading) takeProcess(pid int, v []byte) bool {
	n := codec.NewReader(v)
	has := n.Between(0, r.c.Regions)
	if n.End() != api.OK || pid >= r.c.Procs {
		return false
	}
	r.procs = append(r.procs, live.Process{Pid: pid})
	r.has = append(r.has, has)
	return true
}

// process finds one by its number.
func (r *reading) process(pid int) (*live.Process, bool) {
	i, ok := slices.BinarySearchFunc(r.procs, pid, func(x live.Process, pid int) int { return cmp.Compare(x.Pid, pid) })
	if !ok {
		return nil, false
	}
	return &r.procs[i], true
}

// id tells a place's number: the next one, if it is new.
func (r *reading) id(at api.Addr) int {
	if id, ok := r.ids[at]; ok {
		return id
	}
	r.pages = append(r.pages, at)
	r.ids[at] = len(r.pages)
	return len(r.pages)
}

// right tells whether all that was taken is a machine.
func (r *reading) right() bool {
	for i, x := range r.procs {
		if len(x.Regions) != r.has[i] || !right(r.c, x) {
			return false
		}
	}
	return true
}

// Load, Check, Blobs read one.
func Load(c api.Config, s blobs.Sink, root api.Addr) ([]live.Process, []api.Addr, api.Errno) {
	r, e := read(c, s, root)
	if e != api.OK {
		return nil, nil, e
	}
	return r.procs, r.pages, api.OK
}

func Blobs(c api.Config, s blobs.Sink, root api.Addr) ([]api.Addr, api.Errno) {
	r, e := read(c, s, root)
	if e != api.OK {
		return nil, e
	}
	all := append(r.nodes, r.pages...)
	slices.SortFunc(all, func(a, b api.Addr) int {
		return cmp.Or(cmp.Compare(a.Sector, b.Sector), cmp.Compare(a.N, b.N))
	})
	return slices.Clip(slices.Compact(all)), api.OK
}

func Check(c api.Config, s blobs.Sink, root api.Addr) api.Errno {
	r, e := read(c, s, root)
	if e != api.OK {
		return e
	}
	for _, at := range r.pages {
		b, e := s.Get(at)
		if e != api.OK {
			return e
		}
		if len(b) != c.Page {
			return api.ErrCorrupt
		}
	}
	return api.OK
}
