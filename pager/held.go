package pager

import "almanac/frames"

// held is the pages that are in memory: frames, and their bytes.
type held struct {
	pool *frames.Pool
	n    int
	used int
	data [][]byte
}

func holding(pool *frames.Pool, n int) held {
	return held{pool: pool, n: n, data: make([][]byte, n)}
}

// find tells a page's frame, if it is in memory.
func (h *held) find(id int) (int, bool) { return h.pool.Find(id) }

// first tells which frame must make way for another page; false, if none must.
func (h *held) first() (int, bool) {
	if h.used < h.n {
		return 0, false
	}
	return h.pool.Victim()
}

// put lays a page's bytes into a frame; where one must make way it has been settled.
func (h *held) put(id int, b []byte, dirty bool) {
	f, _, given, _ := h.pool.Take(id)
	if !given {
		h.used++
	}
	h.data[f] = b
	h.pool.Touch(f, dirty)
}

// forget takes a frame from its page.
func (h *held) forget(f int) {
	h.pool.Drop(f)
	h.data[f] = nil
	h.used--
}

func (h *held) isDirty(f int) bool {
	x, _ := h.pool.At(f)
	return x.Dirty
}
