package segs

import (
	"math"
	"math/rand"
	"slices"
	"testing"

	"almanac/api"
)

func TestNewLoad(t *testing.T) { // P701
	for _, n := range []int{0, -1, 65537, math.MinInt} {
		if x, e := New(n); x != nil || e != api.ErrArg {
			t.Errorf("P701: %d: %v", n, e)
		}
	}
	if x, e := Load(); x != nil || e != api.ErrArg {
		t.Errorf("P701: none: %v", e)
	}
	if x, e := Load(make([]bool, 65537)...); x != nil || e != api.ErrArg {
		t.Errorf("P701: too many: %v", e)
	}
	x, e := New(65536)
	if e != api.OK || x.Count(Free) != 65536 || x.State(65535) != Free || x.State(65536) != -1 || x.State(-1) != -1 || x.Used(-1) != 0 || x.Used(99999) != 0 {
		t.Error("P701: New")
	}
	x, e = Load(true, false, true)
	if e != api.OK || x.State(0) != Full || x.State(1) != Free || x.State(2) != Full || x.Used(0) != 0 || x.Count(Full) != 2 {
		t.Error("P701: Load")
	}
	if !slices.Equal(x.Fulls(), []bool{true, false, true}) || x.Count(4) != 0 || x.Count(-1) != 0 {
		t.Error("P701: Fulls, Count")
	}
}

func TestStates(t *testing.T) { // P702, P704
	x, _ := New(3)
	for want := range 3 {
		if k, e := x.Take(); k != want || e != api.OK || x.State(k) != Open {
			t.Errorf("P702: Take: %d, %v", k, e)
		}
	}
	if k, e := x.Take(); k != 0 || e != api.ErrFull {
		t.Errorf("P702: Take of none: %v", e)
	}
	if x.Fill(3) != api.ErrNone || x.Fill(-1) != api.ErrNone || x.Hold(3, 0) != api.ErrNone || x.Hold(0, 0) != api.ErrNot || x.Add(9, 1) != api.ErrNone {
		t.Error("P702: errors")
	}
	if x.Add(0, 7) != api.OK || x.Fill(0) != api.OK || x.Fill(0) != api.ErrNot || x.Used(0) != 7 || x.State(0) != Full {
		t.Error("P702: Fill")
	}
	if x.Hold(0, 5) != api.OK || x.Hold(0, 5) != api.ErrNot || x.State(0) != Held || x.Used(0) != 7 {
		t.Error("P702: Hold")
	}
	x.Fill(2)
	x.Hold(2, -3)
	if l := x.Release(-4); len(l) != 0 {
		t.Errorf("P702: Release: %v", l)
	}
	if l := x.Release(4); !slices.Equal(l, []int{2}) || x.State(2) != Free {
		t.Errorf("P702: Release: %v", l)
	}
	if l := x.Release(5); !slices.Equal(l, []int{0}) || x.State(0) != Free || x.Used(0) != 0 {
		t.Errorf("P702: Release: %v", l)
	}
	if x.Add(0, 0) != api.ErrNot {
		t.Error("P702: Add to a Free one")
	}
	if k, _ := x.Take(); k != 0 || x.Used(0) != 0 {
		t.Errorf("P702: Take: %d", k)
	}
	for _, n := range []int{-1, 1<<30 + 1, math.MinInt, math.MaxInt} {
		if x.Add(0, n) != api.ErrArg || x.Used(0) != 0 {
			t.Errorf("P702: Add of %d", n)
		}
	}
	if x.Add(0, 1<<30) != api.OK || x.Add(0, 1) != api.ErrArg || x.Add(0, -1<<30) != api.OK || x.Used(0) != 0 {
		t.Error("P702: Add at the bound")
	}
}

func TestEach(t *testing.T) { // P703
	x, _ := Load(false, true, false, true)
	x.Add(3, 4)
	var got [][3]int
	x.Each(func(k, state, used int) bool {
		got = append(got, [3]int{k, state, used})
		x.Take()
		return k < 2
	})
	if !slices.Equal(got, [][3]int{{0, Free, 0}, {1, Full, 0}, {2, Free, 0}}) {
		t.Errorf("P703: %v", got)
	}
	n := 0
	x.Each(func(k, state, used int) bool { n++; return true })
	if n != 4 {
		t.Errorf("P703: %d", n)
	}
}

func TestAlways(t *testing.T) { // P704
	r := rand.New(rand.NewSource(7))
	x, _ := New(9)
	for range 5000 {
		k := r.Intn(11) - 1
		switch r.Intn(5) {
		case 0:
			before := x.Fulls()
			k, e := x.Take()
			if want := slices.Index(before, false); e == api.OK && k != want || (e == api.OK) != (want >= 0) {
				t.Fatalf("P702: Take: %d, %v", k, e)
			}
		case 1:
			x.Fill(k)
		case 2:
			x.Hold(k, r.Intn(9))
		case 3:
			if r.Intn(3) == 0 {
				x.Release(r.Intn(9))
			}
		case 4:
			x.Add(k, r.Intn(9)-4)
		}
		sum := 0
		for s := range 4 {
			n := 0
			x.Each(func(_, state, _ int) bool {
				if state == s {
					n++
				}
				return true
			})
			if n != x.Count(s) {
				t.Fatalf("P704: Count of %d", s)
			}
			sum += n
		}
		if sum != 9 {
			t.Fatal("P704: all")
		}
	}
}
