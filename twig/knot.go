// Package twig: the nodes of trees that are never changed, and works on them in memory. Packages radix and image stand on it.
//
// A node says its level (which four bits of a key it tells apart) and its prefix (all bits ahead of these). Levels at which
// only one way goes on have no node, but the root's has. A node says of each child at which level it stands: so no blob is
// taken for a node at a place where it does not stand.
package twig

import (
	"bytes"
	"math"

	"almanac/api"
	"almanac/codec"
)

// Their shape.
const (
	Bits   = 4
	Levels = 6
	MaxVal = 256
	MaxKey = 1 << (Bits * Levels)

	fan       = 1 << Bits
	leaf      = Levels - 1 // the level of nodes with values
	levelBits = 3          // of a child's level
)

// limb is a way to a node: where it stands, and at which level.
type limb struct {
	at    api.Addr
	level int
	knot  *knot // nil: it has not been read
}

// knot is a node in memory.
type knot struct {
	level, prefix int
	has           uint // which slots are used
	limbs         [fan]*limb
	vals          [][]byte // of a leaf
	fresh         bool     // it stands nowhere yet
}

func newKnot(level, prefix int) *knot {
	k := &knot{level: level, prefix: prefix, fresh: true}
	if level == leaf {
		k.vals = make([][]byte, fan)
	}
	return k
}

// above tells the bits of a key ahead of those of a level; slot those of a level.
func above(key, level int) int { return key >> (Bits * (Levels - level)) }

func slot(key, level int) int { return key >> (Bits * (leaf - level)) & (fan - 1) }

// first tells the least key that a node may have.
func (k *knot) first() int { return k.prefix << (Bits * (Levels - k.level)) }

func (k *knot) uses(i int) bool { return k.has>>i&1 == 1 }

func (k *knot) setLimb(i int, l *limb) {
	k.limbs[i] = l
	k.has |= 1 << i
	k.fresh = true
}

func (k *knot) setVal(i int, v []byte) {
	k.vals[i] = bytes.Clone(v)
	k.has |= 1 << i
	k.fresh = true
}

func (k *knot) drop(i int) {
	k.limbs[i] = nil
	if k.level == leaf {
		k.vals[i] = nil
	}
	k.has &^= 1 << i
	k.fresh = true
}

// only tells the one slot that is used, if one is.
func (k *knot) only() (int, bool) {
	if k.has == 0 || k.has&(k.has-1) != 0 {
		return 0, false
	}
	for i := range fan {
		if k.uses(i) {
			return i, true
		}
	}
	return 0, false
}

// encode tells a node's bytes; those below it stand somewhere.
func (k *knot) encode() []byte {
	w := codec.NewWriter().Int(int64(k.level)).Int(int64(k.prefix)).Int(int64(k.has))
	if k.level < leaf {
		w.Int(int64(k.packLevels()))
	}
	for i := range fan {
		switch {
		case !k.uses(i):
		case k.level == leaf:
			w.Bytes(k.vals[i])
		default:
			w.Int(int64(k.limbs[i].at.Sector)).Int(int64(k.limbs[i].at.N))
		}
	}
	return w.Done()
}

func (k *knot) packLevels() uint64 {
	var packed uint64
	for i := range fan {
		if k.uses(i) {
			packed |= uint64(k.limbs[i].level) << (levelBits * i)
		}
	}
	return packed
}

// decode tells the node of bytes.
func decode(b []byte) (*knot, bool) {
	r := codec.NewReader(b)
	level := r.Between(0, leaf)
	k := newKnot(level, r.Between(0, 1<<(Bits*level)-1))
	k.fresh = false
	k.has = uint(r.Between(1, 1<<fan-1))
	var packed uint64
	if level < leaf {
		packed = uint64(r.Int())
	}
	for i := range fan {
		switch {
		case !k.uses(i):
		case level == leaf:
			k.vals[i] = r.Bytes(MaxVal)
		default:
			at := api.Addr{Sector: r.Between(math.MinInt, math.MaxInt), N: r.Between(math.MinInt, math.MaxInt)}
			k.limbs[i] = &limb{at: at, level: int(packed >> (levelBits * i) & (1<<levelBits - 1))}
		}
	}
	if r.End() != api.OK || level < leaf && !k.right(packed) {
		return nil, false
	}
	return k, true
}

// right tells whether a node with children stands above all of them, and has a reason to be.
func (k *knot) right(packed uint64) bool {
	for _, l := range k.limbs {
		if l != nil && (l.level <= k.level || l.level > leaf) {
			return false
		}
	}
	_, one := k.only()
	return packed == k.packLevels() && (k.level == 0 || !one)
}
