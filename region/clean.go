package region

import (
	"cmp"
	"container/heap"
	"slices"

	"almanac/api"
)

const mostHi = 1 << 30 // of a region that Clean takes

// claim is a region that is not yet right; the later one of two counts.
type claim struct {
	api.Region
	turn int
}

// claims are those that begin at a place or ahead of it, the latest first.
type claims []claim

func (c claims) Len() int { return len(c) }

func (c claims) Less(i, j int) bool { return c[i].turn > c[j].turn }

func (c claims) Swap(i, j int) { c[i], c[j] = c[j], c[i] }

func (c *claims) Push(x any) {
	if v, ok := x.(claim); ok {
		*c = append(*c, v)
	}
}

func (c *claims) Pop() any {
	n := len(*c) - 1
	last := (*c)[n]
	*c = (*c)[:n]
	return last
}

// Clean goes over the places at which a region begins or ends, and asks between two of them which claim counts.
func Clean(l []api.Region) []api.Region {
	var all []claim
	var places []int
	for i, r := range l {
		if r.Lo >= 0 && r.Lo < r.Hi && rightProt(r.Prot) && r.Hi <= mostHi {
			all = append(all, claim{r, i})
			places = append(places, r.Lo, r.Hi)
		}
	}
	slices.SortStableFunc(all, func(a, b claim) int { return cmp.Compare(a.Lo, b.Lo) })
	slices.Sort(places)
	places = slices.Compact(places)
	var open claims
	var out []api.Region
	for i := 0; i+1 < len(places); i++ {
		lo, hi := places[i], places[i+1]
		for len(all) > 0 && all[0].Lo <= lo {
			heap.Push(&open, all[0])
			all = all[1:]
		}
		for len(open) > 0 && open[0].Hi <= lo {
			heap.Pop(&open)
		}
		if len(open) > 0 {
			out = join(out, api.Region{Lo: lo, Hi: hi, Prot: open[0].Prot})
		}
	}
	return slices.Clip(out)
}
