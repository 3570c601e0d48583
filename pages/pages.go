// Package pages: what a pager is inside: pages, in memory and out of it, and how many spaces have each.
//
// A pager's face (package pager) is that of chapter 14 alone. Spaces that were made apart may have the same page, too, and
// must know it: so who has a page is kept with the page, and package space asks for it here.
package pages

import (
	"bytes"

	"almanac/api"
	"almanac/blobs"
	"almanac/frames"
)

// page is one: where the sink has it as it is now, if it does. One that neither stands nor is in memory has bytes 0.
type page struct {
	at     api.Addr
	stands bool
	owners int // spaces that have it
}

// Pager has pages.
type Pager struct {
	held
	size int
	sink blobs.Sink
	all  map[int]*page
	last int // the number that was given last
}

func New(size, n int, s blobs.Sink) (*Pager, api.Errno) {
	if size < api.MinPage || size > api.MaxPage {
		return nil, api.ErrArg
	}
	pool, e := frames.New(n)
	if e != api.OK {
		return nil, e
	}
	return &Pager{held: held{pool: pool, n: n, data: make([][]byte, n)}, size: size, sink: s, all: map[int]*page{}}, api.OK
}

func (p *Pager) add(x *page) int {
	p.last++
	p.all[p.last] = x
	return p.last
}

func (p *Pager) Make() int { return p.add(&page{}) }

func (p *Pager) Bring(a api.Addr) int { return p.add(&page{at: a, stands: true}) }

// at tells a page, if the n bytes from off on are all in it.
func (p *Pager) at(id, off, n int) (*page, api.Errno) {
	x, ok := p.all[id]
	if !ok {
		return nil, api.ErrNone
	}
	if off < 0 || n < 0 || n > p.size || off > p.size-n {
		return nil, api.ErrArg
	}
	return x, api.OK
}

// look tells a page's bytes, in their place where it is in memory: they are not to be changed.
func (p *Pager) look(id int, x *page) ([]byte, api.Errno) {
	if f, ok := p.find(id); ok {
		p.pool.Touch(f, false)
		return p.data[f], api.OK
	}
	if !x.stands {
		return make([]byte, p.size), api.OK
	}
	b, e := p.sink.Get(x.at)
	if e != api.OK {
		return nil, e
	}
	if len(b) != p.size {
		return nil, api.ErrCorrupt
	}
	return bytes.Clone(b), api.OK
}

// settle puts what a frame has, if the sink has not: then it may be given up.
func (p *Pager) settle(f int) api.Errno {
	if !p.isDirty(f) {
		return api.OK
	}
	x, _ := p.pool.At(f)
	a, e := p.sink.Put(bytes.Clone(p.data[f]))
	if e != api.OK {
		return e
	}
	p.pool.Clean(f)
	p.all[x.Key].at, p.all[x.Key].stands = a, true
	return api.OK
}

// makeWay makes room for one page in memory.
func (p *Pager) makeWay() api.Errno {
	if f, must := p.first(); must {
		return p.settle(f)
	}
	return api.OK
}

func (p *Pager) Read(id, off, n int) ([]byte, api.Errno) {
	x, e := p.at(id, off, n)
	if e != api.OK || n == 0 {
		return nil, e
	}
	b, e := p.look(id, x)
	if e != api.OK {
		return nil, e
	}
	if _, here := p.find(id); !here && x.stands {
		if e := p.makeWay(); e != api.OK {
			return nil, e
		}
		p.put(id, b, false)
	}
	return bytes.Clone(b[off : off+n]), api.OK
}

func (p *Pager) Write(id, off int, b []byte) api.Errno {
	x, e := p.at(id, off, len(b))
	if e != api.OK || len(b) == 0 {
		return e
	}
	old, e := p.look(id, x)
	if e != api.OK {
		return e
	}
	if bytes.Equal(old[off:off+len(b)], b) { // what stands in the sink goes on standing there
		return api.OK
	}
	f, here := p.find(id)
	if !here {
		if e := p.makeWay(); e != api.OK {
			return e
		}
		p.put(id, old, true)
		f, _ = p.find(id)
	}
	copy(p.data[f][off:], b)
	p.pool.Touch(f, true)
	x.at, x.stands = api.Addr{}, false
	return api.OK
}

func (p *Pager) Copy(id int) (int, api.Errno) {
	x, e := p.at(id, 0, 0)
	if e != api.OK {
		return 0, e
	}
	f, here := p.find(id)
	if !here && !x.stands {
		return p.Make(), api.OK
	}
	b, e := p.look(id, x)
	if e != api.OK {
		return 0, e
	}
	b = bytes.Clone(b)
	dirty := here && p.isDirty(f)
	if e := p.makeWay(); e != api.OK {
		return 0, e
	}
	// To make way the page itself may have been put: then its copy stands there, too.
	to := p.add(&page{at: x.at, stands: x.stands})
	p.put(to, b, dirty && !x.stands)
	return to, api.OK
}

func (p *Pager) Drop(id int) api.Errno {
	if _, ok := p.all[id]; !ok {
		return api.ErrNone
	}
	if f, ok := p.find(id); ok {
		p.forget(f)
	}
	delete(p.all, id)
	return api.OK
}

func (p *Pager) Save(id int) (api.Addr, api.Errno) {
	x, e := p.at(id, 0, 0)
	if e != api.OK {
		return api.Addr{}, e
	}
	if f, here := p.find(id); here {
		e = p.settle(f)
	} else if !x.stands {
		x.at, e = p.sink.Put(make([]byte, p.size))
		x.stands = e == api.OK
	}
	if e != api.OK {
		return api.Addr{}, e
	}
	return x.at, api.OK
}

func (p *Pager) Move(id int, a api.Addr) api.Errno {
	x, e := p.at(id, 0, 0)
	if e != api.OK {
		return e
	}
	if !x.stands {
		return api.ErrNot
	}
	x.at = a
	return api.OK
}

func (p *Pager) Where(id int) (api.Addr, bool) {
	x, e := p.at(id, 0, 0)
	if e != api.OK || !x.stands {
		return api.Addr{}, false
	}
	return x.at, true
}

func (p *Pager) Evict(n int) int {
	for gone := 0; gone < n; gone++ {
		f, ok := p.pool.Victim()
		if !ok || p.settle(f) != api.OK {
			return gone
		}
		p.forget(f)
	}
	return max(n, 0)
}

func (p *Pager) Held() int { return p.used }

func (p *Pager) Pages() int { return len(p.all) }

// Own counts a space that has a page; Disown one that has it no more: a page that none has is dropped.
func (p *Pager) Own(id int) {
	if x, ok := p.all[id]; ok {
		x.owners++
	}
}

func (p *Pager) Disown(id int) {
	if x, ok := p.all[id]; ok {
		if x.owners--; x.owners <= 0 {
			p.Drop(id)
		}
	}
}

// Shared tells whether more than one space has a page.
func (p *Pager) Shared(id int) bool {
	x, ok := p.all[id]
	return ok && x.owners > 1
}
