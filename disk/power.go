package disk

// power is what may go, and when.
type power struct {
	off   bool
	armed bool
	left  int // writes up to the armed one
	keep  []bool
}

func (p *power) isOff() bool { return p.off }

func (p *power) arm(n int, keep []bool) {
	p.armed, p.left, p.keep = true, max(n, 1), append([]bool(nil), keep...)
}

// strikes counts a write, and tells whether it is the armed one.
func (p *power) strikes() bool {
	if !p.armed {
		return false
	}
	p.left--
	return p.left == 0
}

// goOff takes the power away; nothing is armed then.
func (p *power) goOff() { *p = power{off: true} }

func (p *power) goOn() { p.off = false }
