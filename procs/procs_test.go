package procs

import (
	"math"
	"math/rand"
	"slices"
	"testing"

	"almanac/api"
)

func TestNewOf(t *testing.T) { // P1701
	for _, n := range []int{0, -1, 65, math.MinInt} {
		if s, e := New(n); s != nil || e != api.ErrArg {
			t.Errorf("P1701: %d: %v", n, e)
		}
		if s, e := Of(n); s != nil || e != api.ErrArg {
			t.Errorf("P1701: %d: %v", n, e)
		}
	}
	for _, l := range [][]int{{-1}, {4}, {1, 1}, {0, 3, 0}, {math.MaxInt}, {math.MinInt}} {
		if s, e := Of(4, l...); s != nil || e != api.ErrArg {
			t.Errorf("P1701: %v: %v", l, e)
		}
	}
	s, e := Of(64, 63, 0)
	if e != api.OK || s.Bits() != 1<<63|1 || !slices.Equal(s.List(), []int{0, 63}) || s.Len() != 2 {
		t.Errorf("P1701: %v", s.List())
	}
	if k, e := s.Take(); k != 1 || e != api.OK {
		t.Errorf("P1701: %d", k)
	}
	var seen []int
	s.Each(func(pid int) bool {
		seen = append(seen, pid)
		return pid < 1
	})
	if !slices.Equal(seen, []int{0, 1}) {
		t.Errorf("P1701: Each: %v", seen)
	}
}

func TestAlways(t *testing.T) { // P1701
	r := rand.New(rand.NewSource(1))
	for _, n := range []int{1, 5, 64} {
		s, _ := New(n)
		has := make([]bool, n)
		for range 3000 {
			if r.Intn(2) == 0 {
				want := slices.Index(has, false)
				k, e := s.Take()
				if want < 0 && (e != api.ErrPid || k != 0) || want >= 0 && (k != want || e != api.OK) {
					t.Fatalf("P1701: Take: %d, %v", k, e)
				}
				has[k] = has[k] || want >= 0
			} else {
				k := r.Intn(n+2) - 1
				if e := s.Free(k); (e == api.OK) != (k >= 0 && k < n && has[k]) || e != api.OK && e != api.ErrNone {
					t.Fatalf("P1701: Free: %v", e)
				} else if e == api.OK {
					has[k] = false
				}
			}
			var list []int
			var bits uint64
			for k, x := range has {
				if x {
					list = append(list, k)
					bits |= 1 << k
				}
				if s.Has(k) != x {
					t.Fatal("P1701: Has")
				}
			}
			if !slices.Equal(s.List(), list) || s.Len() != len(list) || s.Bits() != bits || s.Has(-1) || s.Has(n) || s.Has(math.MaxInt) {
				t.Fatal("P1701: List")
			}
		}
	}
}
