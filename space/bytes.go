package space

import (
	"almanac/api"
	"almanac/owners"
	"almanac/rules"
)

// part is what of some bytes lies in one page.
type part struct {
	place, off int
	from, to   int // which of the bytes
}

// each hands on the parts of n bytes from at on, till one has an error.
func (s *Space) each(at, n int, do func(x part) api.Errno) api.Errno {
	for from := 0; from < n; {
		place, off := (at+from)/s.c.Page, (at+from)%s.c.Page
		to := min(n, from+s.c.Page-off)
		if e := do(part{place, off, from, to}); e != api.OK {
			return e
		}
		from = to
	}
	return api.OK
}

// loading is a Load that is under way.
type loading struct {
	*Space
	out []byte
}

func (l *loading) part(x part) api.Errno {
	id, ok := l.ids[x.place]
	if !ok {
		return api.OK
	}
	b, e := l.p.Read(id, x.off, x.to-x.from)
	copy(l.out[x.from:x.to], b)
	return e
}

func (s *Space) Load(at, n int) ([]byte, api.Errno) {
	if e := rules.Load(s.c, s.regions, at, n); e != api.OK {
		return nil, e
	}
	l := &loading{s, make([]byte, n)}
	if e := s.each(at, n, l.part); e != api.OK {
		return nil, e
	}
	return l.out, api.OK
}

// storing is a Store that is under way: drafts are pages that take the places of others when all are written.
type storing struct {
	*Space
	b      []byte
	drafts []Slot
}

func (t *storing) part(x part) api.Errno {
	id, e := t.base(x)
	if e != api.OK {
		return e
	}
	if e := t.p.Write(id, x.off, t.b[x.from:x.to]); e != api.OK {
		t.p.Drop(id)
		return e
	}
	t.drafts = append(t.drafts, Slot{x.place, id})
	return api.OK
}

// base tells a new page that has what a part leaves as it is.
func (t *storing) base(x part) (int, api.Errno) {
	id, ok := t.ids[x.place]
	if !ok || x.to-x.from == t.c.Page {
		return t.p.Make(), api.OK
	}
	return t.p.Copy(id)
}

// inPlace tells the page that all bytes may be written to at once, if there is one.
func (s *Space) inPlace(at, n int) (int, bool) {
	place := at / s.c.Page
	id, ok := s.ids[place]
	return id, ok && (at+n-1)/s.c.Page == place && !owners.Of(s.p).Shared(id)
}

func (s *Space) Store(at int, b []byte) api.Errno {
	if e := rules.Store(s.c, s.regions, at, len(b)); e != api.OK || len(b) == 0 {
		return e
	}
	if id, ok := s.inPlace(at, len(b)); ok {
		return s.p.Write(id, at%s.c.Page, b)
	}
	t := &storing{Space: s, b: b}
	e := s.each(at, len(b), t.part)
	for _, x := range t.drafts {
		if e == api.OK {
			s.set(x.Page, x.Id)
		} else {
			s.p.Drop(x.Id)
		}
	}
	return e
}
