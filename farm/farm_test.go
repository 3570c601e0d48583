package farm

import (
	"math/rand"
	"reflect"
	"slices"
	"strings"
	"testing"

	"almanac/api"
	"almanac/sls"
)

var shape = api.Config{Sectors: 1000, Sector: 512, Journal: 8, Segment: 30, Page: 512, Frames: 8, Procs: 4, Regions: 4, Pages: 64}

const script = `make
map 0 0 9 3
store 0 510 0a0bff

begin
step
fork 0
load 1 509 5
list
full
evict 9
clean 1
arm 3 01
store 1 0 00
commit
protect 0 2 1 1
unmap 0 5 4
full
boot -
list
exit 0
burst 0 -5 7
load 0 0 1
boot 1
`

func TestParse(t *testing.T) { // P2602
	l, e := Parse(script)
	if e != api.OK || len(l) != 23 || Text(l...) != strings.ReplaceAll(script, "\n\n", "\n") {
		t.Fatalf("P2602: %v, %d: %s", e, len(l), Text(l...))
	}
	want := map[int]sls.Move{
		0:  {Kind: sls.Do, Op: api.Op{Kind: api.OMake}},
		1:  {Kind: sls.Do, Op: api.Op{Kind: api.OMap, N: 9, Prot: 3}},
		2:  {Kind: sls.Do, Op: api.Op{Kind: api.OStore, At: 510, Data: []byte{10, 11, 255}}},
		6:  {Kind: sls.Do, Op: api.Op{Kind: api.OLoad, Pid: 1, At: 509, N: 5}},
		9:  {Kind: sls.Evict, N: 9},
		11: {Kind: sls.Arm, N: 3, Keep: []bool{false, true}},
		14: {Kind: sls.Do, Op: api.Op{Kind: api.OProtect, At: 2, N: 1, Prot: 1}},
		17: {Kind: sls.Boot},
		20: {Kind: sls.Burst, B: -5, N: 7},
		22: {Kind: sls.Boot, Keep: []bool{true}},
	}
	for i, m := range want {
		if !reflect.DeepEqual(l[i], m) {
			t.Errorf("P2602: %d: %v; want %v", i, l[i], m)
		}
	}
	for _, s := range []string{"", "\n", "\n\n", "make", "evict -999999999", "evict 0\n", "evict 999999999\n"} {
		if _, e := Parse(s); e != api.OK {
			t.Errorf("P2602: %q: %v", s, e)
		}
	}
	for _, s := range []string{"mak", "make 1", "make ", " make", "map 0 0 9", "map 0 0 9 3 1", "map 0  0 9 3", "map\t0 0 9 3", "evict", "evict 01", "evict -0", "evict +1", "evict 1000000000", "evict -1000000000", "evict 1.0", "evict 0x1", "evict -", "evict 1_0", "store 0 0", "store 0 0 ", "store 0 0 0", "store 0 0 0A", "store 0 0 0g", "store 0 0 000", "arm 1", "arm 1 2", "arm 1 ", "arm - 0", "boot", "boot 1-", "boot --", "boot 0 1", "make\r\n", "Make", "burst 1 2", "full 1"} {
		if l, e := Parse("make\n" + s); l != nil || e != api.ErrForm {
			t.Errorf("P2602: %q: %v", s, e)
		}
	}
	if l, e := Parse(strings.Repeat("step\n", 4096)); len(l) != 4096 || e != api.OK {
		t.Errorf("P2602: %v", e)
	}
	if l, e := Parse(strings.Repeat("step\n", 4097)); l != nil || e != api.ErrLong {
		t.Errorf("P2602: %v", e)
	}
	if _, e := Parse(strings.Repeat("step\n", 4097) + "x"); e != api.ErrForm {
		t.Errorf("P6: %v", e)
	}
}

func TestText(t *testing.T) { // P2602
	bad := []sls.Move{
		{}, {Kind: 11}, {Kind: -1}, {Kind: sls.Do}, {Kind: sls.Do, Op: api.Op{Kind: 10}},
		{Kind: sls.Do, Op: api.Op{Kind: api.OStore}}, {Kind: sls.Do, Op: api.Op{Kind: api.OMake, Pid: 1}},
		{Kind: sls.Do, N: 1, Op: api.Op{Kind: api.OMake}}, {Kind: sls.Do, Keep: []bool{true}, Op: api.Op{Kind: api.OMake}},
		{Kind: sls.Evict, N: 1000000000}, {Kind: sls.Evict, N: -1000000000}, {Kind: sls.Evict, A: 1},
		{Kind: sls.Begin, Op: api.Op{Kind: api.OMake}}, {Kind: sls.Begin, Keep: []bool{false}}, {Kind: sls.Burst, Op: api.Op{At: 1}},
		{Kind: sls.Full, Op: api.Op{Data: []byte{1}}}, {Kind: sls.Boot, N: 1}, {Kind: sls.Do, Op: api.Op{Kind: api.OLoad, Prot: 1}},
	}
	for _, m := range bad {
		if s := Text(m); s != "" {
			t.Errorf("P2602: %v: %q", m, s)
		}
	}
	if s := Text(sls.Move{Kind: sls.Arm, N: -999999999, Keep: []bool{}}, bad[0], sls.Move{Kind: sls.Begin}); s != "arm -999999999 -\nbegin\n" {
		t.Errorf("P2602: %q", s)
	}
	r := rand.New(rand.NewSource(1))
	for range 3000 {
		m := randomMove(r)
		m.Op.Pid = r.Intn(3) - 1
		l, e := Parse(Text(m))
		if e != api.OK || len(l) > 1 || len(l) == 1 && !same(l[0], m) {
			t.Fatalf("P2602: %v: %v", m, l)
		}
	}
}

func randomMove(r *rand.Rand) sls.Move {
	m := sls.Move{Kind: 1 + r.Intn(9), N: r.Intn(12)}
	if m.Kind == sls.Burst {
		m.Kind = sls.Full
	}
	if r.Intn(2) == 0 {
		m = sls.Move{Kind: sls.Do, Op: api.Op{Kind: api.OStore, Pid: r.Intn(2), At: r.Intn(4000), Data: []byte("some bytes")}}
		switch r.Intn(5) {
		case 0:
			m.Op = api.Op{Kind: 1 + r.Intn(9), Pid: r.Intn(3)}
		case 1:
			m.Op = api.Op{Kind: api.OMap, Pid: r.Intn(2), At: r.Intn(20), N: 1 + r.Intn(9), Prot: 3}
		case 2:
			m.Op = api.Op{Kind: api.OLoad, Pid: r.Intn(2), At: r.Intn(4000), N: 30}
		}
	}
	if m.Kind == sls.Arm || m.Kind == sls.Boot {
		for range r.Intn(9) {
			m.Keep = append(m.Keep, r.Intn(2) == 0)
		}
	}
	return m
}

func randomJob(seed int64) Job {
	r := rand.New(rand.NewSource(seed))
	j := Job{Config: shape, Moves: []sls.Move{{Kind: sls.Do, Op: api.Op{Kind: api.OMake}}, {Kind: sls.Do, Op: api.Op{Kind: api.OMap, N: 12, Prot: 3}}}}
	for range 150 {
		j.Moves = append(j.Moves, randomMove(r))
	}
	return j
}

func TestRun(t *testing.T) { // P2601
	wrong := shape
	wrong.Pages = 0
	if r := Run(Job{Config: wrong}); !reflect.DeepEqual(r, Report{Err: api.ErrArg}) {
		t.Errorf("P2601: %v", r)
	}
	if r := Run(Job{Config: shape}); r.Err != api.OK || len(r.Answers) != 0 || !r.Judged || r.Epoch != 1 {
		t.Errorf("P2601: %v", r)
	}
	var jobs []Job
	for seed := range int64(300) {
		jobs = append(jobs, randomJob(seed))
	}
	jobs = append(jobs, Job{Config: wrong})
	var want []Report
	downs := 0
	for i, j := range jobs {
		r := Run(j)
		want = append(want, r)
		if i < 300 && !r.Judged {
			n, _ := Judge(j.Config, j.Moves, r.Answers)
			t.Fatalf("P2601: job %d is refused at %d: %s %v", i, n, Text(j.Moves[n]), r.Answers[n])
		}
		for _, a := range r.Answers {
			if a.Err == api.ErrDown {
				downs++
				break
			}
		}
	}
	if downs < 50 {
		t.Errorf("only %d scripts lose their power", downs)
	}
	for _, crew := range []int{1, 3, 8} {
		if got, e := Farm(crew, jobs...); e != api.OK || !reflect.DeepEqual(got, want) {
			t.Errorf("P2601: a crew of %d tells otherwise: %v", crew, e)
		}
	}
	for _, crew := range []int{0, -1, 9} {
		if got, e := Farm(crew, jobs...); got != nil || e != api.ErrArg {
			t.Errorf("P2601: a crew of %d: %v", crew, e)
		}
	}
	if got, e := Farm(5); len(got) != 0 || e != api.OK {
		t.Errorf("P2601: no jobs: %v", e)
	}
}

func TestJudge(t *testing.T) { // P2601
	moves, _ := Parse(script)
	s, _ := sls.New(shape)
	answers := s.Play(moves...)
	n, all := Judge(shape, moves, answers)
	if n != len(moves) || !all {
		t.Fatalf("P2601: %d: %v", n, answers[n])
	}
	anything := []int{sls.Step, sls.Evict, sls.Clean, sls.Arm}
	junk := sls.Answer{Answer: api.Answer{Err: 77, Pid: 3, Data: []byte{1}}, More: true, Epoch: 9}
	for i, m := range moves {
		x := slices.Clone(answers)
		x[i] = junk
		n, all := Judge(shape, moves, x)
		if slices.Contains(anything, m.Kind) || i >= 20 {
			if n != len(moves) || !all {
				t.Errorf("P2601: %d may answer anything: %d", i, n)
			}
		} else if n != i || all {
			t.Errorf("P2601: %d may not: %d", i, n)
		}
		if n, all := Judge(shape, moves[:i], answers); n != i || all {
			t.Errorf("P2601: more answers than moves: %d, %v", n, all)
		}
		if n, all := Judge(shape, moves, answers[:i]); n != i || all {
			t.Errorf("P2601: fewer answers: %d, %v", n, all)
		}
	}
	wrong := shape
	wrong.Page = 0
	if n, all := Judge(wrong, moves, answers); n != 0 || all {
		t.Error("P2601: a shape that is none")
	}
}

// answer tells one of an error and an epoch.
func answer(e api.Errno, epoch uint64) sls.Answer {
	return sls.Answer{Answer: api.Answer{Err: e}, Epoch: epoch}
}

func TestJudgeDoubt(t *testing.T) { // P2601: what may be, and what may not, behind a cut
	for _, c := range []struct {
		text    string
		answers []sls.Answer
		want    int
	}{
		{"make\nfull\nboot -", []sls.Answer{{}, answer(0, 2), answer(0, 2)}, 3},
		{"make\nfull\nboot -", []sls.Answer{{}, answer(0, 3)}, 1},
		{"make\nfull\nboot -", []sls.Answer{{}, answer(0, 2), answer(0, 1)}, 2},
		{"arm 9 -\nmake\nfull\nboot -\nlist", []sls.Answer{{}, {}, answer(api.ErrDown, 0), answer(0, 2), {Answer: api.Answer{Pids: []int{0}}}}, 5},
		{"arm 9 -\nmake\nfull\nboot -\nlist", []sls.Answer{{}, {}, answer(api.ErrDown, 0), answer(0, 1), {}}, 5},
		{"arm 9 -\nmake\nfull\nboot -\nlist", []sls.Answer{{}, {}, answer(api.ErrDown, 0), answer(0, 1), {Answer: api.Answer{Pids: []int{0}}}}, 4},
		{"arm 9 -\nmake\nfull\nboot -\nlist", []sls.Answer{{}, {}, answer(api.ErrDown, 0), answer(0, 3)}, 3},
		{"make\nbegin\nboot -\ncommit", []sls.Answer{{}, {}, answer(0, 1), answer(0, 2)}, 3},
		{"make\nbegin\nboot -\ncommit", []sls.Answer{{}, {}, answer(0, 1), answer(api.ErrNot, 0)}, 4},
		{"arm 1 -\nevict 1\nlist\nlist\nboot -", []sls.Answer{{}, answer(api.ErrDown, 0), answer(api.ErrDown, 0), answer(api.ErrDown, 0), answer(0, 1)}, 5},
		{"arm 1 -\nevict 1\nlist\nlist\nboot -", []sls.Answer{{}, answer(api.ErrDown, 0), answer(api.ErrDown, 0), {}}, 3},
		{"list", []sls.Answer{answer(api.ErrDown, 0)}, 0},
		{"begin", []sls.Answer{answer(api.ErrDown, 0)}, 0},
		{"begin", []sls.Answer{{More: true}}, 0},
		{"make", []sls.Answer{{Epoch: 1}}, 0},
		{"boot 1", []sls.Answer{answer(api.ErrCorrupt, 0)}, 0},
		{"boot 1\nboot 1", []sls.Answer{answer(api.ErrDown, 0), answer(0, 1)}, 2},
		{"full", []sls.Answer{answer(api.ErrCorrupt, 0)}, 0},
		{"full\nbegin", []sls.Answer{answer(api.ErrSpace, 0), answer(api.ErrNot, 0)}, 2},
	} {
		moves, e := Parse(c.text)
		if e != api.OK {
			t.Fatal(c.text)
		}
		if n, all := Judge(shape, moves, c.answers); n != c.want || all != (n == len(moves)) {
			t.Errorf("P2601: %q, %v: %d; want %d", c.text, c.answers, n, c.want)
		}
	}
	if n, all := Judge(shape, []sls.Move{{Kind: 0}, {Kind: 11}}, []sls.Answer{answer(api.ErrArg, 0), {}}); n != 1 || all {
		t.Errorf("P2601: kinds that are none: %d", n)
	}
}
