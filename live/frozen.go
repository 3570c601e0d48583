package live

import "almanac/space"

// Frozen is a machine as it was.
type Frozen struct {
	pids   []int
	spaces map[int]*space.Space
}

func (f *Frozen) Processes() []Process { return tell(f.pids, f.spaces) }

func (f *Frozen) Weight() int { return weigh(f.spaces) }

func (f *Frozen) Thaw() {
	for _, pid := range f.pids {
		f.spaces[pid].Close()
	}
	f.pids, f.spaces = nil, nil
}
