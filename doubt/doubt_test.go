package doubt

import (
	"testing"

	"almanac/api"
	"almanac/model"
)

var shape = api.Config{Page: 16, Procs: 2, Regions: 3, Pages: 12}

func newState(t *testing.T) *State {
	t.Helper()
	s, e := New(shape)
	if e != api.OK {
		t.Fatal(e)
	}
	return s
}

func yes(*model.Machine) bool { return true }

func no(*model.Machine) bool { return false }

// is tells whether a state is as wanted.
func is(t *testing.T, s *State, up, begun, doubt bool, epoch uint64, saved int) {
	t.Helper()
	m, e := s.Saved()
	if (s.Live() != nil) != up || s.Begun() != begun || s.Doubt() != doubt || e != epoch || m.Weight() != saved {
		t.Errorf("up %v, begun %v, doubt %v, epoch %d, saved %d", s.Live() != nil, s.Begun(), s.Doubt(), e, m.Weight())
	}
}

func mk(t *testing.T, s *State, pid int) {
	t.Helper()
	if s.Do(api.Op{Kind: api.OMake}, api.Answer{Pid: pid}) != Fine {
		t.Error("P2501: make")
	}
}

func TestDo(t *testing.T) { // P2501
	wrong := shape
	wrong.Procs = 0
	if s, e := New(wrong); s != nil || e != api.ErrArg {
		t.Errorf("P2501: %v", e)
	}
	s := newState(t)
	is(t, s, true, false, false, 1, 0)
	mk(t, s, 0)
	list := api.Op{Kind: api.OList}
	for _, c := range []struct {
		op   api.Op
		a    api.Answer
		want Kind
	}{
		{list, api.Answer{Pids: []int{0}}, Fine},
		{list, api.Answer{Pids: []int{0, 1}}, Wrong},
		{list, api.Answer{}, Wrong},
		{list, api.Answer{Pids: []int{0}, Pid: 1}, Wrong},
		{list, api.Answer{Err: api.ErrSpace}, Wrong},
		{list, api.Answer{Err: api.ErrDown}, Wrong},
		{api.Op{Kind: api.OMake}, api.Answer{Pid: 2}, Wrong},
		{api.Op{Kind: api.OMake}, api.Answer{Err: api.ErrSpace, Pid: 1}, Wrong},
		{api.Op{Kind: api.OMake}, api.Answer{Err: api.ErrSpace}, Fine},
		{api.Op{Kind: api.OMake}, api.Answer{Err: api.ErrDown}, Fine},
		{api.Op{Kind: api.OMake}, api.Answer{Err: api.ErrCorrupt}, Wrong},
		{api.Op{Kind: api.OMake}, api.Answer{Err: api.ErrPid}, Wrong},
		{list, api.Answer{Pids: []int{0}}, Fine}, // nothing was done
		{api.Op{Kind: api.OExit, Pid: 1}, api.Answer{Err: api.ErrSpace}, Wrong},
		{api.Op{Kind: api.OExit, Pid: 1}, api.Answer{Err: api.ErrDown}, Wrong},
		{api.Op{Kind: api.OExit, Pid: 1}, api.Answer{Err: api.ErrNone}, Fine},
		{api.Op{}, api.Answer{Err: api.ErrArg}, Fine},
		{api.Op{Kind: api.OMap, N: 2, Prot: 3}, api.Answer{}, Fine},
		{api.Op{Kind: api.OStore, Data: []byte("ab")}, api.Answer{Data: []byte("ab")}, Wrong},
		{api.Op{Kind: api.OStore, Data: []byte("ab")}, api.Answer{Data: []byte{}, Pids: []int{}}, Fine},
		{api.Op{Kind: api.OLoad, N: 2}, api.Answer{Data: []byte("ab")}, Fine},
		{api.Op{Kind: api.OLoad, N: 2}, api.Answer{Data: []byte("ac")}, Wrong},
	} {
		if s.Do(c.op, c.a) != c.want {
			t.Errorf("P2501: %v, %v", c.op, c.a)
		}
	}
	s.Cut()
	if s.Do(list, api.Answer{Pids: []int{0}}) != Wrong || s.Do(list, api.Answer{Err: api.ErrDown}) != Fine || s.Do(api.Op{}, api.Answer{Err: api.ErrArg}) != Wrong || s.Do(list, api.Answer{Err: api.ErrDown, Pid: 1}) != Wrong {
		t.Error("P2501: down")
	}
}

func TestBeginCommit(t *testing.T) { // P2501, P2502
	s := newState(t)
	if s.Begin(api.ErrNot) != Wrong || s.Begin(api.ErrDown) != Wrong || s.Commit(api.OK, 2, false) != Wrong {
		t.Error("P2501: none is begun")
	}
	if s.Commit(api.ErrNot, 0, false) != Fine || s.Commit(api.ErrSpace, 0, false) != Fine || s.Commit(api.ErrNot, 0, true) != Wrong || s.Commit(api.ErrSpace, 0, true) != Wrong || s.Commit(api.ErrCorrupt, 0, false) != Wrong || s.Commit(api.ErrDown, 0, false) != Wrong {
		t.Error("P2502: errors")
	}
	mk(t, s, 0)
	if s.Begin(api.OK) != Fine || s.Begin(api.OK) != Wrong || s.Begin(api.ErrNot) != Fine {
		t.Error("P2501: Begin")
	}
	mk(t, s, 1)
	is(t, s, true, true, false, 1, 0)
	if s.Commit(api.OK, 1, false) != Wrong || s.Commit(api.OK, 3, false) != Wrong || s.Commit(api.OK, 2, true) != Wrong {
		t.Error("P2502: OK")
	}
	is(t, s, true, true, false, 1, 0)
	if s.Commit(api.OK, 2, false) != Fine || s.Live().Weight() != 2 {
		t.Error("P2502: OK")
	}
	is(t, s, true, false, false, 2, 1)
	if s.Commit(api.ErrDown, 0, true) != Fine {
		t.Error("P2502: ErrDown, none begun")
	}
	is(t, s, false, false, false, 2, 1)
	if s.Begin(api.OK) != Wrong || s.Begin(api.ErrDown) != Fine || s.Commit(api.ErrDown, 0, true) != Fine || s.Commit(api.ErrNot, 0, false) != Wrong || s.Commit(api.OK, 3, false) != Wrong {
		t.Error("P2501, P2502: down")
	}
}

func TestBoot(t *testing.T) { // P2502, P2503
	s := newState(t)
	mk(t, s, 0)
	s.Begin(api.OK)
	mk(t, s, 1)
	never := func(*model.Machine) bool { t.Error("P2503: see is asked"); return true }
	if s.Boot(api.OK, 2, false, never) != Wrong || s.Boot(api.ErrCorrupt, 1, false, never) != Wrong || s.Boot(api.OK, 1, true, never) != Wrong || s.Boot(api.ErrDown, 0, false, never) != Wrong || s.Boot(api.OK, 1, false, no) != Wrong {
		t.Error("P2503: Wrong")
	}
	is(t, s, true, true, false, 1, 0)
	x := s.Twin()
	if x.Boot(api.OK, 1, false, func(m *model.Machine) bool { return m.Weight() == 0 }) != Fine {
		t.Error("P2503: saved")
	}
	is(t, x, true, false, false, 1, 0)
	is(t, s, true, true, false, 1, 0)
	if s.Commit(api.ErrDown, 0, true) != Fine {
		t.Error("P2502: doubt")
	}
	is(t, s, false, false, true, 1, 0)
	s.Cut()
	if s.Boot(api.ErrDown, 0, true, never) != Fine || s.Boot(api.OK, 3, false, never) != Wrong {
		t.Error("P2503: off")
	}
	is(t, s, false, false, true, 1, 0)
	x = s.Twin()
	if x.Boot(api.OK, 1, false, func(m *model.Machine) bool { return m.Weight() == 0 }) != Fine {
		t.Error("P2503: saved")
	}
	is(t, x, true, false, false, 1, 0)
	if x.Commit(api.OK, 2, false) != Wrong {
		t.Error("P2503: none is begun")
	}
	x = s.Twin()
	if x.Boot(api.OK, 2, false, no) != Wrong {
		t.Error("P2503: it says no")
	}
	if x.Boot(api.OK, 2, false, func(m *model.Machine) bool {
		w := m.Weight()
		m.Do(api.Op{Kind: api.OExit})
		return w == 1
	}) != Fine || x.Live().Weight() != 1 {
		t.Error("P2503: pending")
	}
	is(t, x, true, false, false, 2, 1)
	mk(t, x, 1)
	is(t, x, true, false, false, 2, 1)
	is(t, s, false, false, true, 1, 0)
	if x.Boot(api.OK, 2, false, yes) != Fine || x.Live().Weight() != 1 {
		t.Error("P2503: live is no more")
	}
}
