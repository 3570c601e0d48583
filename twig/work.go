package twig

import (
	"bytes"

	"almanac/api"
	"almanac/blobs"
)

const mostNodes = 1 << 20 // that a walk goes over

// Work is a tree that is worked on in memory: what is changed stands nowhere, till it is put.
type Work struct {
	s     blobs.Sink
	top   *limb // nil: no keys
	order []*limb
	puts  int
}

// Open tells a work on the tree of a root.
func Open(s blobs.Sink, root api.Addr) *Work {
	w := &Work{s: s}
	if root != (api.Addr{}) {
		w.top = &limb{at: root}
	}
	return w
}

// read tells the node of a limb that hangs on a slot of up, which is nil for the top.
func (w *Work) read(l *limb, up *knot, i int) (*knot, api.Errno) {
	if l.knot != nil {
		return l.knot, api.OK
	}
	b, e := w.s.Get(l.at)
	if e != api.OK {
		return nil, e
	}
	k, ok := decode(b)
	if !ok || k.level != l.level {
		return nil, api.ErrCorrupt
	}
	if up != nil && above(k.first(), up.level+1) != up.prefix<<Bits|i {
		return nil, api.ErrCorrupt
	}
	return k, api.OK
}

// Get tells the value of a key.
func (w *Work) Get(key int) ([]byte, bool, api.Errno) {
	var up *knot
	at := 0
	for l := w.top; l != nil; {
		k, e := w.read(l, up, at)
		if e != api.OK {
			return nil, false, e
		}
		at = slot(key, k.level)
		if k.prefix != above(key, k.level) || !k.uses(at) {
			return nil, false, api.OK
		}
		if k.level == leaf {
			return bytes.Clone(k.vals[at]), true, api.OK
		}
		up, l = k, k.limbs[at]
	}
	return nil, false, api.OK
}

// sprout tells a new leaf of one key.
func sprout(key int, v []byte) *limb {
	k := newKnot(leaf, above(key, leaf))
	k.setVal(slot(key, leaf), v)
	return &limb{level: leaf, knot: k}
}

// Set makes v the value of a key. An error has changed nothing.
func (w *Work) Set(key int, v []byte) api.Errno {
	if w.top == nil {
		k := newKnot(0, 0)
		k.setLimb(slot(key, 0), sprout(key, v))
		w.top = &limb{knot: k}
		return api.OK
	}
	l, e := w.set(w.top, nil, 0, key, v)
	if e == api.OK {
		w.top = l
	}
	return e
}

// set tells the limb that l becomes. All is read ahead of the first change, as the changes are done on the way back.
func (w *Work) set(l *limb, up *knot, i, key int, v []byte) (*limb, api.Errno) {
	k, e := w.read(l, up, i)
	if e != api.OK {
		return nil, e
	}
	if k.prefix != above(key, k.level) {
		return branch(l, k, key, v), api.OK
	}
	at := slot(key, k.level)
	if k.level == leaf {
		if k.uses(at) && bytes.Equal(k.vals[at], v) {
			return l, api.OK
		}
		k.setVal(at, v)
		return &limb{level: leaf, knot: k}, api.OK
	}
	if !k.uses(at) {
		k.setLimb(at, sprout(key, v))
		return &limb{level: k.level, knot: k}, api.OK
	}
	below, e := w.set(k.limbs[at], k, at, key, v)
	if e != api.OK || below == k.limbs[at] {
		return l, e
	}
	k.setLimb(at, below)
	return &limb{level: k.level, knot: k}, api.OK
}

// branch tells a node above l and a new leaf, where their keys go apart.
func branch(l *limb, k *knot, key int, v []byte) *limb {
	level := 0
	for slot(key, level) == slot(k.first(), level) {
		level++
	}
	b := newKnot(level, above(key, level))
	b.setLimb(slot(k.first(), level), l)
	b.setLimb(slot(key, level), sprout(key, v))
	return &limb{level: level, knot: b}
}

// Delete takes a key away. An error has changed nothing.
func (w *Work) Delete(key int) api.Errno {
	if w.top == nil {
		return api.OK
	}
	l, e := w.drop(w.top, nil, 0, key)
	if e == api.OK {
		w.top = l
	}
	return e
}

// drop tells the limb that l becomes without a key; nil, if none is left.
func (w *Work) drop(l *limb, up *knot, i, key int) (*limb, api.Errno) {
	k, e := w.read(l, up, i)
	if e != api.OK {
		return nil, e
	}
	at := slot(key, k.level)
	if k.prefix != above(key, k.level) || !k.uses(at) {
		return l, api.OK
	}
	var below *limb
	if k.level < leaf {
		below, e = w.drop(k.limbs[at], k, at, key)
		if e != api.OK || below == k.limbs[at] {
			return l, e
		}
	}
	if below != nil {
		k.setLimb(at, below)
	} else {
		k.drop(at)
	}
	if k.has == 0 {
		return nil, api.OK
	}
	if one, ok := k.only(); ok && k.level > 0 && k.level < leaf {
		return k.limbs[one], api.OK
	}
	return &limb{level: k.level, knot: k}, api.OK
}

// Walk goes over all nodes, and their keys, rising, till one of both says false; kept nodes need not be read again.
func (w *Work) Walk(keep bool, node func(at api.Addr) bool, val func(key int, v []byte) bool) api.Errno {
	if w.top == nil {
		return api.OK
	}
	left := mostNodes
	_, e := w.walk(w.top, nil, 0, &left, keep, node, val)
	return e
}

func (w *Work) walk(l *limb, up *knot, i int, left *int, keep bool, node func(at api.Addr) bool, val func(key int, v []byte) bool) (bool, api.Errno) {
	if *left == 0 {
		return false, api.ErrCorrupt
	}
	*left--
	k, e := w.read(l, up, i)
	if e != api.OK {
		return false, e
	}
	if keep {
		l.knot = k
	}
	if !node(l.at) {
		return false, api.OK
	}
	for at := range fan {
		if !k.uses(at) {
			continue
		}
		if k.level == leaf {
			if !val(k.first()|at, bytes.Clone(k.vals[at])) {
				return false, api.OK
			}
			continue
		}
		on, e := w.walk(k.limbs[at], k, at, left, keep, node, val)
		if !on || e != api.OK {
			return false, e
		}
	}
	return true, api.OK
}

// Plan says which nodes are to be put: those that stand nowhere, each behind those below it.
func (w *Work) Plan() {
	w.order = nil
	if w.top != nil {
		w.plan(w.top)
	}
}

func (w *Work) plan(l *limb) {
	if l.knot == nil || !l.knot.fresh {
		return
	}
	for _, below := range l.knot.limbs {
		if below != nil {
			w.plan(below)
		}
	}
	w.order = append(w.order, l)
}

// Put puts up to n nodes of the plan, and tells whether more are left.
func (w *Work) Put(n int) (bool, api.Errno) {
	for ; n > 0 && len(w.order) > 0; n-- {
		l := w.order[0]
		at, e := w.s.Put(l.knot.encode())
		if e != api.OK {
			return false, e
		}
		w.puts++
		l.at, l.knot.fresh = at, false
		w.order = w.order[1:]
	}
	return len(w.order) > 0, api.OK
}

// Puts tells how many nodes were put.
func (w *Work) Puts() int { return w.puts }

// Root tells where the tree stands, when all is put.
func (w *Work) Root() api.Addr {
	if w.top == nil {
		return api.Addr{}
	}
	return w.top.at
}
