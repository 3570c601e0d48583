package disk

import (
	"bytes"
	"math"
	"math/rand"
	"testing"

	"almanac/api"
	"almanac/crc"
)

func full(x byte) []byte { return bytes.Repeat([]byte{x}, 64) }

func must(t *testing.T, d *Disk, e api.Errno) *Disk {
	t.Helper()
	if e != api.OK {
		t.Fatal(e)
	}
	return d
}

func small(t *testing.T) *Disk {
	t.Helper()
	d, e := New(4, 64)
	return must(t, d, e)
}

func TestNewOf(t *testing.T) { // P501
	for _, c := range [][2]int{{0, 64}, {-1, 64}, {65537, 64}, {1, 63}, {1, 4097}, {1, 0}, {1, -64}} {
		if d, e := New(c[0], c[1]); d != nil || e != api.ErrArg {
			t.Errorf("P501: %v: %v", c, e)
		}
	}
	for _, c := range [][2]int{{0, 64}, {65, 64}, {63, 64}, {65537 * 64, 64}, {4097, 4097}, {64, 0}, {64, -1}, {64, 63}} {
		if d, e := Of(make([]byte, c[0]), c[1]); d != nil || e != api.ErrArg {
			t.Errorf("P501: %v: %v", c, e)
		}
	}
	d, e := New(65536, 64)
	if n, size := must(t, d, e).Shape(); n != 65536 || size != 64 || d.Off() {
		t.Errorf("P501: %d, %d", n, size)
	}
	b := append(full(1), full(2)...)
	d, e = Of(b, 64)
	must(t, d, e)
	b[0] = 9
	d.Bytes()[0] = 9
	if got := d.Bytes(); !bytes.Equal(got, append(full(1), full(2)...)) {
		t.Error("P501, P2: Bytes")
	}
	r, _ := d.Read(1)
	r[0] = 9
	if r, _ = d.Read(1); !bytes.Equal(r, full(2)) {
		t.Error("P2: Read shares")
	}
}

func TestWriteReadFlush(t *testing.T) { // P502
	d := small(t)
	for _, k := range []int{-1, 4, math.MaxInt, math.MinInt} {
		if e := d.Write(k, full(1)); e != api.ErrArg {
			t.Errorf("P502: %d: %v", k, e)
		}
		if b, e := d.Read(k); e != api.ErrArg || b != nil {
			t.Errorf("P502: %d: %v", k, e)
		}
	}
	if d.Write(0, full(1)[:63]) != api.ErrArg || d.Write(0, append(full(1), 1)) != api.ErrArg || d.Writes() != 0 || d.Reads() != 0 {
		t.Error("P502, P503: refused ones")
	}
	b := full(1)
	d.Write(2, b)
	b[0] = 7
	d.Write(2, full(2))
	if r, e := d.Read(2); !bytes.Equal(r, full(2)) || e != api.OK {
		t.Error("P502: a pending write is not seen")
	}
	if !bytes.Equal(d.Bytes(), make([]byte, 256)) || d.Pending() != 2 || d.Writes() != 2 || d.Reads() != 1 {
		t.Error("P501, P503: pending")
	}
	if d.Flush() != api.OK || d.Pending() != 0 || !bytes.Equal(d.Bytes()[128:192], full(2)) {
		t.Error("P502: Flush")
	}
	d.Cut(true, true)
	if d.Write(9, nil) != api.ErrDown || d.Flush() != api.ErrDown || !d.Off() {
		t.Error("P502: down")
	}
	if _, e := d.Read(9); e != api.ErrDown {
		t.Error("P502: down")
	}
	d.On()
	if r, e := d.Read(2); d.Off() || !bytes.Equal(r, full(2)) || e != api.OK {
		t.Error("P505: what was flushed is gone")
	}
}

func TestCutArm(t *testing.T) { // P503, P505
	d := small(t)
	d.Write(0, full(1))
	d.Write(0, full(2))
	d.Cut(true)
	d.On()
	if r, _ := d.Read(0); !bytes.Equal(r, full(1)) || d.Pending() != 0 {
		t.Error("P503: the first is kept, the second lost")
	}
	d.Write(0, full(3))
	d.Write(1, full(4))
	d.Write(0, full(5))
	d.Cut(false, true, true, true)
	if got := d.Bytes(); !bytes.Equal(got[:64], full(5)) || !bytes.Equal(got[64:128], full(4)) {
		t.Error("P503: kept in their order")
	}
	d.On()
	keep := []bool{true, false}
	d.Arm(1)
	d.Arm(3, keep...)
	keep[0] = false
	d.Write(9, full(1)) // refused: not counted
	if d.Write(2, full(6)) != api.OK || d.Write(3, full(7)) != api.OK || d.Off() {
		t.Error("P503: too early")
	}
	if d.Write(1, full(8)) != api.ErrDown || !d.Off() || d.Writes() != 7 {
		t.Errorf("P503: the armed write: %d", d.Writes())
	}
	d.On()
	if got := d.Bytes(); !bytes.Equal(got[128:192], full(6)) || !bytes.Equal(got[192:], make([]byte, 64)) || !bytes.Equal(got[64:128], full(4)) {
		t.Error("P503: what the armed cut keeps")
	}
	if d.Write(1, full(8)) != api.OK {
		t.Error("P503: nothing is armed")
	}
	d.Arm(-5)
	if d.Write(1, full(9)) != api.ErrDown {
		t.Error("P503: below 1 is the next")
	}
	d.Arm(1)
	d.On()
	if d.Write(1, full(9)) != api.ErrDown {
		t.Error("P503: armed without power")
	}
	d.Arm(1)
	d.Cut()
	d.On()
	if d.Write(1, full(9)) != api.OK {
		t.Error("P503: Cut leaves nothing armed")
	}
}

func TestBurst(t *testing.T) { // P504
	d := small(t)
	d.Write(1, full(1))
	d.Flush()
	d.Write(1, full(2))
	d.Write(2, full(3))
	d.Write(1, full(4))
	for _, c := range [][2]int{{-1, 0}, {4, 0}, {0, -1}} {
		if d.Burst(c[0], c[1], 1) {
			t.Errorf("P504: %v", c)
		}
	}
	d.Cut()
	d.On()
	d.Write(1, full(2))
	d.Write(2, full(3))
	d.Write(1, full(4))
	if !d.Burst(1, 509, 0xF) || !d.Burst(1, 9999, 1) {
		t.Error("P504")
	}
	if r, _ := d.Read(1); !bytes.Equal(r, crc.Burst(full(4), 509, 0xF)) {
		t.Error("P504: pending")
	}
	if r, _ := d.Read(2); !bytes.Equal(r, full(3)) {
		t.Error("P504: another sector")
	}
	if !bytes.Equal(d.Bytes()[64:128], crc.Burst(full(1), 509, 0xF)) {
		t.Error("P504: kept")
	}
	d.Cut(true)
	if !d.Burst(0, 0, 1) || !bytes.Equal(d.Bytes()[64:128], crc.Burst(full(2), 509, 0xF)) || d.Bytes()[0] != 1 {
		t.Error("P504: without power")
	}
}

func TestOutcomes(t *testing.T) { // P505: each sector has what was kept, or one of the pending writes
	r := rand.New(rand.NewSource(5))
	for range 300 {
		d := small(t)
		may := [4][]byte{{0}, {0}, {0}, {0}}
		for range r.Intn(12) {
			k, x := r.Intn(4), byte(1+r.Intn(200))
			d.Write(k, full(x))
			may[k] = append(may[k], x)
			if r.Intn(5) == 0 {
				d.Flush()
				for k := range may {
					may[k] = may[k][len(may[k])-1:]
				}
			}
		}
		keep := make([]bool, r.Intn(14))
		for i := range keep {
			keep[i] = r.Intn(2) == 0
		}
		d.Cut(keep...)
		for k, x := range may {
			if got := d.Bytes()[k*64 : k*64+64]; bytes.IndexByte(x, got[0]) < 0 || !bytes.Equal(got, full(got[0])) {
				t.Fatalf("P505: sector %d", k)
			}
		}
	}
}
