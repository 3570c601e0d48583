package farm

import (
	"almanac/api"
	"almanac/doubt"
	"almanac/model"
	"almanac/sls"
)

// judge holds answers against a state. Steps, Evicts, Cleans may answer anything: the power may have gone in them, unseen.
type judge struct {
	s     *doubt.State
	armed bool // whether a write is armed, as far as is known
	loose bool // whether the power may have gone, unseen
	gone  bool // whether an answer has said so that may say anything
}

func Judge(c api.Config, moves []sls.Move, answers []sls.Answer) (int, bool) {
	s, e := doubt.New(c)
	if e != api.OK {
		return 0, false
	}
	j := &judge{s: s}
	most := min(len(moves), len(answers))
	n := 0
	for n < most && moves[n].Kind != sls.Burst && j.may(moves[n], answers[n]) {
		n++
	}
	if n < most && moves[n].Kind == sls.Burst {
		n = most
	}
	return n, n == len(moves) && n == len(answers)
}

// may tells whether a move may be answered so, and goes on.
func (j *judge) may(m sls.Move, a sls.Answer) bool {
	switch m.Kind {
	case sls.Arm:
		j.armed = true
		return true
	case sls.Step, sls.Evict, sls.Clean:
		j.gone = j.gone || a.Err == api.ErrDown
		j.loose = j.loose || j.armed || j.gone
		return true
	case sls.Boot:
		return j.boot(a)
	case sls.Do, sls.Begin, sls.Commit, sls.Full:
		return j.tells(m, a)
	}
	return bare(a, false) && a.Err == api.ErrArg
}

// tells takes the answer of a move that says whether the power is on.
func (j *judge) tells(m sls.Move, a sls.Answer) bool {
	down := a.Err == api.ErrDown
	if down && j.unseen(m.Kind) {
		j.s.Cut()
	}
	j.loose, j.gone = false, false
	if !j.takes(m, a) {
		return false
	}
	if down && j.s.Live() != nil {
		j.s.Cut()
	}
	j.armed = j.armed && !down
	return true
}

// unseen tells whether the power is taken to have gone ahead of a move that says so. What commits may have lost it itself.
func (j *judge) unseen(kind int) bool {
	if kind == sls.Commit || kind == sls.Full {
		return j.gone
	}
	return j.loose
}

// bare tells whether an answer has nothing but an error; an epoch, too, if it is one that tells it, without an error.
func bare(a sls.Answer, epoch bool) bool {
	return a.Pid == 0 && len(a.Data) == 0 && len(a.Pids) == 0 && !a.More && (a.Epoch == 0 || epoch && a.Err == api.OK)
}

// takes asks the state.
func (j *judge) takes(m sls.Move, a sls.Answer) bool {
	switch m.Kind {
	case sls.Do:
		return !a.More && a.Epoch == 0 && j.s.Do(m.Op, a.Answer) == doubt.Fine
	case sls.Begin:
		return bare(a, false) && j.s.Begin(a.Err) == doubt.Fine
	case sls.Commit:
		return bare(a, true) && j.commit(a)
	}
	// A Full begins an epoch, if none is begun; of a state that is down this is refused, and the commit says the rest.
	if !j.s.Begun() {
		j.s.Begin(api.OK)
	}
	return bare(a, true) && j.commit(a)
}

func (j *judge) commit(a sls.Answer) bool {
	return j.s.Commit(a.Err, a.Epoch, a.Err == api.ErrDown) == doubt.Fine
}

func (j *judge) boot(a sls.Answer) bool {
	if j.s.Live() != nil && !j.loose {
		j.armed = false // the power was on: it is cut, and nothing is armed
	}
	off := a.Err == api.ErrDown
	j.armed = j.armed && !off
	j.loose, j.gone = false, false
	return bare(a, true) && j.s.Boot(a.Err, a.Epoch, off, func(*model.Machine) bool { return true }) == doubt.Fine
}
