package clean

import (
	"math"
	"math/rand"
	"slices"
	"testing"
)

func TestRightLess(t *testing.T) { // P1001
	for _, l := range []Load{{0, 0, 1, false}, {0, 1, 1, true}, {9, 1 << 20, 1 << 20, false}, {math.MaxInt, 0, 1, false}} {
		if !Right(l) {
			t.Errorf("P1001: %v", l)
		}
	}
	for _, l := range []Load{{}, {0, 0, 1<<20 + 1, false}, {0, -1, 4, false}, {0, 5, 4, false}, {-1, 0, 4, false}, {0, 0, -1, false}, {0, math.MinInt, math.MaxInt, false}} {
		if Right(l) || Worth(l, 100) {
			t.Errorf("P1001: %v", l)
		}
	}
	if !Less(Load{5, 1, 3, false}, Load{1, 2, 5, false}) || Less(Load{1, 2, 5, false}, Load{5, 1, 3, false}) {
		t.Error("P1001: fractions")
	}
	if !Less(Load{1, 2, 4, false}, Load{2, 1, 2, true}) || Less(Load{2, 1, 2, false}, Load{1, 2, 4, false}) || Less(Load{1, 1, 2, false}, Load{1, 2, 4, false}) {
		t.Error("P1001: the same fraction")
	}
	Less(Load{0, math.MaxInt, math.MinInt, false}, Load{})
}

func TestVictim(t *testing.T) { // P1001
	if v, ok := Victim(Load{1, 3, 10, false}, Load{2, 1, 4, false}, Load{3, 2, 8, false}); !ok || v.Segment != 2 {
		t.Errorf("P1001: %v", v)
	}
	if v, ok := Victim(Load{1, 0, 10, true}, Load{2, 4, 4, false}, Load{3, 0, 0, false}, Load{-3, 0, 4, false}); ok || v != (Load{}) {
		t.Errorf("P1001: %v", v)
	}
	if v, ok := Victim(); ok || v != (Load{}) {
		t.Errorf("P1001: %v", v)
	}
	if v, _ := Victim(Load{4, 2, 4, false}, Load{4, 1, 2, false}); v.Size != 4 {
		t.Errorf("P1001: of the same Segment the first: %v", v)
	}
	if v, ok := Victim(Load{0, 0, 1, false}); !ok || v.Size != 1 {
		t.Errorf("P1001: %v", v)
	}
}

func TestPlanGainWorth(t *testing.T) { // P1002
	l := []Load{{1, 3, 10, false}, {2, 1, 4, false}, {3, 2, 8, false}, {4, 0, 9, true}, {5, 4, 4, false}, {6, 9, 4, false}, {2, 1, 4, false}}
	if p, n := Plan(4, l...); !slices.Equal(p, []Load{l[1], l[6]}) || n != 6 {
		t.Errorf("P1002: %v, %d", p, n)
	}
	if p, n := Plan(3, l...); len(p) != 1 || n != 3 {
		t.Errorf("P1002: %v, %d", p, n)
	}
	for _, need := range []int{0, -5, math.MinInt} {
		if p, n := Plan(need, l...); len(p) != 0 || n != 0 {
			t.Errorf("P1002: %v, %d", p, n)
		}
	}
	if p, n := Plan(math.MaxInt, l...); !slices.Equal(p, []Load{l[1], l[6], l[2], l[0]}) || n != 19 {
		t.Errorf("P1002: %v, %d", p, n)
	}
	if n := Gain(l...); n != 28 || Gain() != 0 {
		t.Errorf("P1002: %d", n)
	}
	for part, want := range map[int]bool{-1: false, 0: false, 29: false, 30: true, 31: true, math.MaxInt: true, math.MinInt: false} {
		if Worth(l[0], part) != want {
			t.Errorf("P1002: Worth %d", part)
		}
	}
	if Worth(l[3], 100) || !Worth(Load{0, 0, 5, false}, 0) || !Worth(l[4], 100) || Worth(l[4], 99) {
		t.Error("P1002: Worth")
	}
}

func TestPlanIsVictims(t *testing.T) { // P1002: one behind the other
	r := rand.New(rand.NewSource(9))
	for range 500 {
		l := make([]Load, r.Intn(9))
		for i := range l {
			l[i] = Load{r.Intn(5) - 1, r.Intn(5), r.Intn(5), r.Intn(5) == 0}
		}
		need := r.Intn(12)
		got, freed := Plan(need, l...)
		left, sum := slices.Clone(l), 0
		var want []Load
		for sum < need {
			v, ok := Victim(left...)
			if !ok {
				break
			}
			want = append(want, v)
			sum += v.Size - v.Used
			i := slices.Index(left, v)
			left = slices.Delete(left, i, i+1)
		}
		if !slices.Equal(got, want) || freed != sum {
			t.Fatalf("P1002: %d of %v: %v, %d; want %v, %d", need, l, got, freed, want, sum)
		}
	}
}

func TestSort(t *testing.T) { // P1003
	r := rand.New(rand.NewSource(10))
	for range 300 {
		l := make([][2]int, r.Intn(70))
		for i := range l {
			l[i] = [2]int{r.Intn(9), i}
		}
		before := slices.Clone(l)
		got := Sort(l, func(a, b [2]int) bool { return a[0] < b[0] })
		want := slices.Clone(l)
		slices.SortStableFunc(want, func(a, b [2]int) int { return a[0] - b[0] })
		if !slices.Equal(got, want) || !slices.Equal(l, before) {
			t.Fatalf("P1003: %v: %v", l, got)
		}
		Sort(l, func(a, b [2]int) bool { return true })
		Sort(l, func(a, b [2]int) bool { return r.Intn(2) == 0 })
	}
	if len(Sort([]int(nil), func(a, b int) bool { return a < b })) != 0 {
		t.Error("P1003: none")
	}
}
