package model

import (
	"slices"

	"almanac/api"
	"almanac/rules"
)

// plan tells what refuses an operation, or else what does it.
func (m *Machine) plan(op api.Op) (func() api.Answer, api.Errno) {
	if !Right(op) {
		return nil, api.ErrArg
	}
	kind, _ := kindOf(op)
	switch kind.(type) {
	case making:
		return m.taken(m.make)
	case listing:
		return func() api.Answer { return api.Answer{Pids: m.Pids()} }, api.OK
	}
	if !m.pids.Has(op.Pid) {
		return nil, api.ErrNone
	}
	l := m.regions[op.Pid]
	switch x := kind.(type) {
	case mapping:
		l, e := rules.Map(m.c, l, x.at, x.n, x.prot)
		return m.turned(x.pid, l, e)
	case unmapping:
		l, e := rules.Unmap(m.c, l, x.at, x.n)
		return m.turned(x.pid, l, e)
	case protecting:
		l, e := rules.Protect(m.c, l, x.at, x.n, x.prot)
		return m.turned(x.pid, l, e)
	case loading:
		return func() api.Answer { return m.load(x) }, rules.Load(m.c, l, x.at, x.n)
	case storing:
		return func() api.Answer { return m.store(x) }, rules.Store(m.c, l, x.at, len(x.data))
	case forking:
		return m.taken(func() api.Answer { return m.fork(x.pid) })
	case exiting:
		return func() api.Answer { return m.exit(x.pid) }, api.OK
	}
	return nil, api.ErrArg
}

// taken refuses what takes a number where none is left.
func (m *Machine) taken(do func() api.Answer) (func() api.Answer, api.Errno) {
	if m.pids.Len() == m.c.Procs {
		return nil, api.ErrPid
	}
	return do, api.OK
}

// turned gives a process other regions; pages that are in none any more are gone.
func (m *Machine) turned(pid int, l []api.Region, e api.Errno) (func() api.Answer, api.Errno) {
	return func() api.Answer {
		m.regions[pid] = l
		for _, n := range m.Stored(pid) {
			if !rules.Slots(l, []int{n}) {
				delete(m.stored, api.Page{Pid: pid, N: n})
			}
		}
		return api.Answer{}
	}, e
}

func (m *Machine) make() api.Answer {
	pid, _ := m.pids.Take()
	return api.Answer{Pid: pid}
}

func (m *Machine) fork(pid int) api.Answer {
	twin, _ := m.pids.Take()
	m.regions[twin] = m.regions[pid]
	for _, n := range m.Stored(pid) {
		m.stored[api.Page{Pid: twin, N: n}] = m.stored[api.Page{Pid: pid, N: n}]
	}
	return api.Answer{Pid: twin}
}

func (m *Machine) exit(pid int) api.Answer {
	m.pids.Free(pid)
	delete(m.regions, pid)
	for _, n := range m.Stored(pid) {
		delete(m.stored, api.Page{Pid: pid, N: n})
	}
	return api.Answer{}
}

func (m *Machine) load(x loading) api.Answer {
	var out []byte
	for len(out) < x.n {
		at := x.at + len(out)
		b := m.page(api.Page{Pid: x.pid, N: at / m.c.Page})[at%m.c.Page:]
		out = append(out, b[:min(len(b), x.n-len(out))]...)
	}
	return api.Answer{Data: out}
}

func (m *Machine) store(x storing) api.Answer {
	for done := 0; done < len(x.data); {
		at := x.at + done
		page := api.Page{Pid: x.pid, N: at / m.c.Page}
		b := slices.Clone(m.page(page))
		done += copy(b[at%m.c.Page:], x.data[done:])
		m.stored[page] = b
	}
	return api.Answer{}
}
