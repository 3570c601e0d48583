package region

import (
	"math"
	"math/rand"
	"slices"
	"testing"

	"almanac/api"
)

const pages = 24

// paint tells of each page its Prot, and -1 of one in no region.
func paint(l []api.Region) [pages]int {
	var p [pages]int
	for i := range p {
		p[i] = -1
	}
	for _, r := range l {
		for i := r.Lo; i < r.Hi; i++ {
			p[i] = r.Prot
		}
	}
	return p
}

// regions tells the regions of painted pages.
func regions(p [pages]int) []api.Region {
	var l []api.Region
	for i, x := range p {
		if x < 0 {
			continue
		}
		if n := len(l); n > 0 && l[n-1].Hi == i && l[n-1].Prot == x {
			l[n-1].Hi++
		} else {
			l = append(l, api.Region{Lo: i, Hi: i + 1, Prot: x})
		}
	}
	return l
}

func TestRight(t *testing.T) { // P1501
	good := [][]api.Region{nil, {{Lo: 0, Hi: 1, Prot: 0}}, {{Lo: 0, Hi: 24, Prot: 3}}, {{Lo: 0, Hi: 2, Prot: 1}, {Lo: 2, Hi: 3, Prot: 2}}, {{Lo: 0, Hi: 2, Prot: 1}, {Lo: 3, Hi: 4, Prot: 1}}}
	for _, l := range good {
		if !Right(l, 24) {
			t.Errorf("P1501: %v", l)
		}
	}
	bad := [][]api.Region{{{Lo: 0, Hi: 0, Prot: 1}}, {{Lo: -1, Hi: 2, Prot: 1}}, {{Lo: 2, Hi: 1, Prot: 1}}, {{Lo: 0, Hi: 25, Prot: 1}}, {{Lo: 0, Hi: 1, Prot: 4}}, {{Lo: 0, Hi: 1, Prot: -1}}, {{Lo: 0, Hi: 2, Prot: 1}, {Lo: 2, Hi: 3, Prot: 1}}, {{Lo: 0, Hi: 2, Prot: 1}, {Lo: 1, Hi: 3, Prot: 2}}, {{Lo: 4, Hi: 5, Prot: 1}, {Lo: 0, Hi: 2, Prot: 1}}}
	for _, l := range bad {
		if Right(l, 24) {
			t.Errorf("P1501: %v", l)
		}
	}
	if Right([]api.Region{{Lo: 0, Hi: 1, Prot: 1}}, 0) || Right([]api.Region{{Lo: 0, Hi: 1, Prot: 1}}, -5) || !Right(nil, -5) {
		t.Error("P1501: pages")
	}
}

func TestErrors(t *testing.T) { // P1502
	l := []api.Region{{Lo: 2, Hi: 4, Prot: 1}, {Lo: 6, Hi: 8, Prot: 3}}
	for _, c := range [][3]int{{-1, 2, 1}, {2, 2, 1}, {3, 2, 1}, {2, 3, 4}, {2, 3, -1}, {math.MinInt, math.MaxInt, 0}} {
		if x, e := Map(l, c[0], c[1], c[2]); x != nil || e != api.ErrArg {
			t.Errorf("P1502: Map %v: %v", c, e)
		}
		if x, e := Protect(l, c[0], c[1], c[2]); x != nil || e != api.ErrArg {
			t.Errorf("P1502: Protect %v: %v", c, e)
		}
	}
	if x, e := Map(l, 3, 7, 1); x != nil || e != api.ErrUsed {
		t.Errorf("P1502: %v", e)
	}
	if x, e := Protect(l, 3, 7, 1); x != nil || e != api.ErrNone {
		t.Errorf("P1502: %v", e)
	}
	if x, e := Map([]api.Region{{Lo: 0, Hi: 2, Prot: 1}}, 2, 4, 1); !slices.Equal(x, []api.Region{{Lo: 0, Hi: 4, Prot: 1}}) || e != api.OK {
		t.Errorf("P1502: %v", x)
	}
	if x, _ := Map(l, 4, math.MaxInt, 1); x != nil {
		t.Errorf("P1502: %v", x)
	}
	if x, e := Protect([]api.Region{{Lo: 0, Hi: 9, Prot: 3}}, 3, 5, 1); !slices.Equal(x, []api.Region{{Lo: 0, Hi: 3, Prot: 3}, {Lo: 3, Hi: 5, Prot: 1}, {Lo: 5, Hi: 9, Prot: 3}}) || e != api.OK {
		t.Errorf("P1502: %v", x)
	}
	if x := Unmap(l, 5, 3); !slices.Equal(x, l) || &x[0] == &l[0] {
		t.Errorf("P1502: %v", x)
	}
	if !All(l, 5, 3, 3) || !All(nil, 0, 0, 3) || All(l, -1, 3, 0) || All(l, 2, 4, -1) || All(l, 2, 4, 4) || !All(l, 6, 8, 2) {
		t.Error("P1503: All")
	}
}

func TestPageByPage(t *testing.T) { // P1501 to P1504
	r := rand.New(rand.NewSource(1))
	for range 20000 {
		var p [pages]int
		for i := range p {
			p[i] = r.Intn(5) - 1
			if i > 0 && r.Intn(3) > 0 {
				p[i] = p[i-1]
			}
		}
		l := regions(p)
		before := slices.Clone(l)
		lo, hi, prot := r.Intn(pages), r.Intn(pages+1), r.Intn(4)
		free, mapped, all := true, true, true
		next := p
		gone := p
		var pieces [pages]int = paint(nil)
		for i := lo; i < hi; i++ {
			free = free && p[i] < 0
			mapped = mapped && p[i] >= 0
			all = all && p[i] >= 0 && p[i]&prot == prot
			next[i], gone[i], pieces[i] = prot, -1, p[i]
		}
		if x, e := Map(l, lo, hi, prot); lo < hi && (e == api.OK) != free || e == api.OK && !slices.Equal(x, regions(next)) {
			t.Fatalf("P1504: Map %v, %d, %d: %v", l, lo, hi, x)
		}
		if x, e := Protect(l, lo, hi, prot); lo < hi && (e == api.OK) != mapped || e == api.OK && !slices.Equal(x, regions(next)) {
			t.Fatalf("P1504: Protect %v, %d, %d: %v", l, lo, hi, x)
		}
		if x := Unmap(l, lo, hi); !slices.Equal(x, regions(gone)) {
			t.Fatalf("P1504: Unmap %v, %d, %d: %v", l, lo, hi, x)
		}
		if All(l, lo, hi, prot) != all {
			t.Fatalf("P1503: All %v, %d, %d, %d", l, lo, hi, prot)
		}
		if x := slices.Collect(Pieces(l, lo, hi)); paint(x) != pieces || len(x) > len(l) {
			t.Fatalf("P1503: Pieces %v, %d, %d: %v", l, lo, hi, x)
		}
		f, ok := Find(l, lo)
		if ok != (p[lo] >= 0) || ok && (f.Prot != p[lo] || !slices.Contains(l, f)) || !ok && f != (api.Region{}) {
			t.Fatalf("P1501: Find %v, %d: %v", l, lo, f)
		}
		n := 0
		for _, x := range p {
			if x >= 0 {
				n++
			}
		}
		if Pages(l) != n || !slices.Equal(l, before) {
			t.Fatalf("P1501: Pages: %d", Pages(l))
		}
	}
}

func TestPiecesAreOfThen(t *testing.T) { // P7
	l := []api.Region{{Lo: 0, Hi: 2, Prot: 1}, {Lo: 4, Hi: 6, Prot: 2}}
	s := Pieces(l, 1, 9)
	l[0] = api.Region{Lo: 5, Hi: 6, Prot: 3}
	for range 2 {
		if x := slices.Collect(s); !slices.Equal(x, []api.Region{{Lo: 1, Hi: 2, Prot: 1}, {Lo: 4, Hi: 6, Prot: 2}}) {
			t.Errorf("P7: %v", x)
		}
	}
	for range s {
		break
	}
}

func TestClean(t *testing.T) { // P1501
	r := rand.New(rand.NewSource(2))
	for range 20000 {
		var l []api.Region
		var p [pages]int = paint(nil)
		for range r.Intn(9) {
			x := api.Region{Lo: r.Intn(pages+2) - 2, Hi: r.Intn(pages + 1), Prot: r.Intn(6) - 1}
			l = append(l, x)
			if x.Lo < 0 || x.Prot < 0 || x.Prot > 3 {
				continue
			}
			for i := x.Lo; i < x.Hi; i++ {
				p[i] = x.Prot
			}
		}
		before := slices.Clone(l)
		if x := Clean(l); !slices.Equal(x, regions(p)) || !slices.Equal(l, before) || !Right(x, pages) {
			t.Fatalf("P1501: Clean %v: %v", l, x)
		}
	}
	l := []api.Region{{Lo: 0, Hi: 1 << 30, Prot: 1}, {Lo: 0, Hi: 1<<30 + 1, Prot: 2}, {Lo: 5, Hi: math.MaxInt, Prot: 3}, {Lo: math.MinInt, Hi: 4, Prot: 1}}
	if x := Clean(l); !slices.Equal(x, l[:1]) {
		t.Errorf("P1501: %v", x)
	}
}
