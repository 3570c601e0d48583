package frames

import (
	"math"
	"math/rand"
	"testing"

	"almanac/api"
)

func TestNew(t *testing.T) { // P1301
	for _, n := range []int{0, -1, 4097, math.MinInt} {
		if p, e := New(n); p != nil || e != api.ErrArg {
			t.Errorf("P1301: %d: %v", n, e)
		}
	}
	p, e := New(4096)
	if e != api.OK || p.Hand() != 0 {
		t.Fatal("P1301")
	}
	for _, k := range []int{-1, 4096, math.MaxInt} {
		if f, e := p.At(k); f != (Frame{}) || e != api.ErrNone {
			t.Errorf("P1301: At %d", k)
		}
		if p.Touch(k, true) != api.ErrNone || p.Clean(k) != api.ErrNone || p.Pin(k) != api.ErrNone || p.Unpin(k) != api.ErrNone || p.Drop(k) != api.ErrNone {
			t.Errorf("P1303: %d", k)
		}
	}
	if f, e := p.At(4095); f != (Frame{}) || e != api.OK || p.Touch(4095, true) != api.ErrNone {
		t.Error("P1301, P1303: one that is not used")
	}
	if _, ok := p.Victim(); ok {
		t.Error("P1302: no victim")
	}
}

func TestExample(t *testing.T) { // P1302
	p, _ := New(2)
	p.Take(7)
	p.Take(8)
	if k, ok := p.Victim(); k != 0 || !ok || p.Hand() != 0 || !p.all[1].Ref {
		t.Error("P1302: Victim changes nothing")
	}
	k, out, given, e := p.Take(9)
	if k != 0 || out != (Frame{Key: 7, Used: true}) || !given || e != api.OK || p.Hand() != 1 {
		t.Errorf("P1302: %d, %v, %v, %v, %d", k, out, given, e, p.Hand())
	}
	if k, ok := p.Find(9); k != 0 || !ok {
		t.Error("P1301: Find")
	}
	if k, ok := p.Find(7); k != 0 || ok {
		t.Error("P1301: Find of none")
	}
	if f, _ := p.At(1); f != (Frame{Key: 8, Used: true}) {
		t.Errorf("P1302: %v", f)
	}
	if k, out, given, e := p.Take(8); k != 0 || out != (Frame{}) || given || e != api.ErrUsed {
		t.Errorf("P1302: %v", e)
	}
}

func TestPins(t *testing.T) { // P1302, P1303
	p, _ := New(2)
	p.Take(-5)
	p.Take(0)
	if p.Unpin(0) != api.ErrNot {
		t.Error("P1303: Unpin")
	}
	for range 1 << 20 {
		p.Pin(0)
	}
	if p.Pin(0) != api.ErrFull || p.Drop(0) != api.ErrNot {
		t.Error("P1303: Pin, Drop")
	}
	p.Touch(1, true)
	p.Touch(1, false)
	if u, d, n := p.Count(); u != 2 || d != 1 || n != 1 {
		t.Errorf("P1301: %d, %d, %d", u, d, n)
	}
	if k, out, given, _ := p.Take(3); k != 1 || !given || !out.Dirty || out.Ref || p.Hand() != 0 {
		t.Errorf("P1302: %d, %v", k, out)
	}
	p.Pin(1)
	if _, _, given, e := p.Take(4); given || e != api.ErrFull {
		t.Errorf("P1302: %v", e)
	}
	if _, ok := p.Victim(); ok {
		t.Error("P1302: Victim of pinned ones")
	}
	if _, _, _, e := p.Take(3); e != api.ErrUsed {
		t.Errorf("P6: %v", e)
	}
	p.Touch(1, true)
	p.Clean(1)
	p.Unpin(1)
	if p.Drop(1) != api.OK || p.Drop(1) != api.ErrNone {
		t.Error("P1303: Drop")
	}
	if _, d, _ := p.Count(); d != 0 {
		t.Error("P1303: Clean")
	}
	if k, _, given, _ := p.Take(6); k != 1 || given || p.Hand() != 0 {
		t.Error("P1302: one that is not used")
	}
}

// plain is the clock as the chapter says it, frame by frame.
func plain(all []Frame, hand int) (victim, next int, ok bool) {
	for range 3 * len(all) {
		f := &all[hand]
		at := hand
		hand = (hand + 1) % len(all)
		switch {
		case f.Pins > 0, !f.Used:
		case f.Ref:
			f.Ref = false
		default:
			return at, hand, true
		}
	}
	return 0, 0, false
}

func TestClock(t *testing.T) { // P1302, P1304
	for seed := range int64(200) {
		r := rand.New(rand.NewSource(seed))
		n := 1 + r.Intn(6)
		p, _ := New(n)
		for range 300 {
			k := r.Intn(n)
			switch r.Intn(8) {
			case 0:
				p.Pin(k)
			case 1, 2:
				p.Unpin(k)
			case 3:
				p.Drop(k)
			case 4, 5:
				p.Touch(k, r.Intn(2) == 0)
			default:
				all := append([]Frame(nil), p.all...)
				want, hand, ok := plain(all, p.hand)
				if got, has := p.Victim(); has != ok || got != want {
					t.Fatalf("P1302: Victim %d; want %d", got, want)
				}
				key := r.Intn(12)
				_, there := p.Find(key)
				used, _, _ := p.Count()
				got, out, given, e := p.Take(key)
				if there {
					break
				}
				if used == n && ok && (got != want || !given || p.hand != hand || out != all[want] || e != api.OK) {
					t.Fatalf("P1302: Take: %d, %v; want %d", got, out, want)
				}
				if used < n && (given || e != api.OK) || used == n && !ok && e != api.ErrFull {
					t.Fatalf("P1302: Take: %v", e)
				}
				for i := range p.all {
					if used == n && ok && i != got && p.all[i] != all[i] {
						t.Fatalf("P1302: frame %d: %v; want %v", i, p.all[i], all[i])
					}
				}
			}
		}
	}
}
