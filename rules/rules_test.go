package rules

import (
	"testing"

	"almanac/api"
)

var shape = api.Config{Page: 16, Procs: 2, Regions: 2, Pages: 8}

func TestRules(t *testing.T) {
	l, e := Map(shape, nil, 1, 3, 1)
	if e != api.OK || len(l) != 1 {
		t.Fatal(e)
	}
	if _, e := Map(shape, l, 7, 2, 1); e != api.ErrArg {
		t.Errorf("pages past the end: %v", e)
	}
	if _, e := Unmap(shape, l, 2, 1); e != api.OK {
		t.Errorf("%v", e)
	}
	two, _ := Map(shape, l, 6, 1, 2)
	if x, e := Protect(shape, two, 2, 1, 3); x != nil || e != api.ErrMem {
		t.Errorf("too many regions: %v", e)
	}
	if Load(shape, two, 16, 48) != api.OK || Load(shape, two, 15, 2) != api.ErrFault || Store(shape, two, 16, 1) != api.ErrFault || Store(shape, two, 96, 16) != api.OK || Store(shape, two, 129, 0) != api.ErrArg {
		t.Error("bytes")
	}
	if !Slots(two, []int{1, 3, 6}) || Slots(two, []int{3, 1}) || Slots(two, []int{4}) || Slots(two, []int{1, 1}) {
		t.Error("slots")
	}
	if !Model(shape) || Model(api.Config{Page: 16, Regions: 2, Pages: 8}) || !Right(api.Config{Page: 16, Regions: 2, Pages: 8}) {
		t.Error("shapes")
	}
	if !Regions(shape, two) || Regions(api.Config{Regions: 1, Pages: 8}, two) || Regions(api.Config{Regions: 2, Pages: 6}, two) {
		t.Error("regions")
	}
}
