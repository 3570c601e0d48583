package ckpt

import (
	"almanac/api"
	"almanac/blobs"
)

// doing is an operation that is to be done.
type doing struct {
	m      *Manager
	op     api.Op
	answer api.Answer
}

func (t *doing) Step() (bool, api.Errno) {
	t.answer = t.m.live.Do(t.op)
	return false, t.answer.Err
}

// evicting is pages that are to be put out of memory.
type evicting struct {
	m    *Manager
	left int
}

func (t *evicting) Step() (bool, api.Errno) {
	t.m.sink.failed = api.OK
	if t.left > 0 {
		t.left -= t.m.pager.Evict(t.left)
	}
	return false, t.m.sink.failed
}

// work does one step of a task. One that has no room is done again, when room was made.
func (m *Manager) work(t Task) (bool, api.Errno) {
	if m.lost {
		return false, api.ErrDown
	}
	more, e := t.Step()
	switch t.(type) {
	case *cleaning: // it is what makes room
		return more, e
	}
	for _, ease := range []func() api.Errno{m.sweep, m.compact} {
		if e != api.ErrSpace {
			break
		}
		if e := ease(); e != api.OK && e != api.ErrSpace {
			return false, e
		}
		more, e = t.Step()
	}
	return more, e
}

// put puts a blob where that leaves as many segments free as cleaning may need.
func (m *Manager) put(b []byte) (api.Addr, api.Errno) {
	left := m.table().Count(free)
	open := m.store.Left() - left*m.c.Segment
	if open < m.blob() && left <= m.reserve() {
		if m.d.Off() {
			return api.Addr{}, api.ErrDown
		}
		return api.Addr{}, api.ErrSpace
	}
	return m.store.Put(b)
}

// pageSink is what the pager's pages are put to.
type pageSink struct {
	m      *Manager
	failed api.Errno // the last error of a Put
}

func (s *pageSink) Put(b []byte) (api.Addr, api.Errno) {
	a, e := s.m.put(b)
	if e != api.OK {
		s.failed = e
	}
	return a, e
}

// Get tells of a place that may not be, as an image may name it, what it is to a machine: bytes that may not be.
func (s *pageSink) Get(a api.Addr) ([]byte, api.Errno) {
	b, e := s.m.store.Get(a)
	if e == api.ErrArg {
		e = api.ErrCorrupt
	}
	return b, e
}

// nodeSink is what an image's nodes are put to; it keeps where they are.
type nodeSink struct {
	to    func(b []byte) (api.Addr, api.Errno)
	store *blobs.Store
	made  []api.Addr
}

func (s *nodeSink) Put(b []byte) (api.Addr, api.Errno) {
	a, e := s.to(b)
	if e == api.OK {
		s.made = append(s.made, a)
	}
	return a, e
}

func (s *nodeSink) Get(a api.Addr) ([]byte, api.Errno) { return s.store.Get(a) }
