package ints

import (
	"math"
	"testing"

	"almanac/api"
)

func TestZigZagLogTurn(t *testing.T) { // P101, P105
	zigs := []struct {
		v int64
		u uint64
	}{{0, 0}, {-1, 1}, {1, 2}, {-2, 3}, {math.MaxInt64, math.MaxUint64 - 1}, {math.MinInt64, math.MaxUint64}}
	for _, c := range zigs {
		if Zig(c.v) != c.u || Zag(c.u) != c.v {
			t.Errorf("P101: %d: %d; %d: %d", c.v, Zig(c.v), c.u, Zag(c.u))
		}
	}
	for i := range 64 {
		if Log(1<<i) != i+1 || Log(1<<i-1) != i {
			t.Errorf("P101: Log of bit %d", i)
		}
	}
	if Log(math.MaxUint64) != 64 || Turn(0x0102030405060708) != 0x0807060504030201 {
		t.Error("P101: Log, Turn")
	}
}

func TestPutGetUp(t *testing.T) { // P102, P105
	room := append(make([]byte, 0, 8), 7)
	if b := Put(room, 0x030201, 3); string(b) != "\x07\x01\x02\x03" || room[:2][1] != 0 {
		t.Errorf("P102, P2: % x", b)
	}
	for n, want := range map[int]int{-5: 0, 0: 0, 8: 8, 9: 9, 64: 64, 65: 64, math.MaxInt: 64} {
		b := Put(nil, math.MaxUint64, n)
		if len(b) != want {
			t.Errorf("P102: Put of %d: %d bytes", n, len(b))
		}
		for i := 8; i < len(b); i++ {
			if b[i] != 0 {
				t.Errorf("P102: Put of %d: % x", n, b)
			}
		}
	}
	for n := range 9 {
		v, ok := Get(Put(nil, 0xF1F2F3F4F5F6F7F8, n), n)
		if want := uint64(0xF1F2F3F4F5F6F7F8) & (1<<(8*n) - 1); !ok || v != want {
			t.Errorf("P105: %d: %x", n, v)
		}
	}
	for _, n := range []int{-1, 3, 9, math.MinInt} {
		if v, ok := Get([]byte{1, 2}, n); ok || v != 0 {
			t.Errorf("P102: Get of %d: %d", n, v)
		}
	}
	if _, ok := Get(make([]byte, 20), 9); ok {
		t.Error("P102: Get of nine")
	}
	if v, ok := Up(7, 5); v != 10 || !ok {
		t.Errorf("P102: Up: %d", v)
	}
	if _, ok := Up(1, 1<<62+1); ok {
		t.Error("P102: Up over the end")
	}
}

func TestFieldNarrow(t *testing.T) { // P103
	b := []byte{0x81, 0x42, 0x24, 0x18, 0xFF, 0, 0xAA, 0x55, 0x0F}
	for at := range 72 {
		for n := range 65 {
			v, ok := Field(b, at, n)
			if ok != (at+n <= 72) {
				t.Fatalf("P103: %d, %d: %v", at, n, ok)
			}
			for i := 0; ok && i < n; i++ {
				if v>>i&1 != uint64(b[(at+i)/8])>>((at+i)%8)&1 {
					t.Fatalf("P103: %d, %d: %x", at, n, v)
				}
			}
			if ok && n < 64 && v>>n != 0 {
				t.Fatalf("P103: %d, %d: more bits", at, n)
			}
		}
	}
	for _, c := range [][2]int{{-1, 0}, {0, -1}, {0, 65}, {73, 0}, {math.MaxInt, 64}, {math.MinInt, 1}} {
		if v, ok := Field(b, c[0], c[1]); ok || v != 0 {
			t.Errorf("P103: %v", c)
		}
	}
	if v, ok := Narrow[uint8](255); v != 255 || !ok {
		t.Error("P103: 255")
	}
	if v, ok := Narrow[uint8](256); v != 0 || ok {
		t.Error("P103: 256")
	}
	if v, ok := Narrow[int32](math.MinInt32); v != math.MinInt32 || !ok {
		t.Error("P103: MinInt32")
	}
	if _, ok := Narrow[int16](-40000); ok {
		t.Error("P103: -40000")
	}
	if _, ok := Narrow[uint16](-1); ok {
		t.Error("P103: -1")
	}
}

func TestVar(t *testing.T) { // P104, P105
	front := append(make([]byte, 0, 32), 9)
	if b := Var(front, 300); string(b) != "\x09\xac\x02" || front[:2][1] != 0 || cap(b) != 3 {
		t.Errorf("P104, P2: % x", b)
	}
	for i := range 64 {
		for _, v := range []uint64{1 << i, 1<<i - 1, math.MaxUint64 >> i} {
			b := Var(nil, v)
			if len(b) != max(1, (Log(v)+6)/7) {
				t.Errorf("P104: %d has %d bytes", v, len(b))
			}
			if x, n, e := ReadVar(append(b, 1)); x != v || n != len(b) || e != api.OK {
				t.Errorf("P105: %d: %d, %d, %v", v, x, n, e)
			}
			for cut := range len(b) {
				if x, n, e := ReadVar(b[:cut]); x != 0 || n != 0 || e != api.ErrShort {
					t.Errorf("P104: %d cut to %d: %v", v, cut, e)
				}
			}
		}
	}
	for _, s := range []string{"\x81\x80\x00", "\x80\x00", "\xff\xff\xff\xff\xff\xff\xff\xff\xff\x02", "\x80\x80\x80\x80\x80\x80\x80\x80\x80\x00", "\xff\xff\xff\xff\xff\xff\xff\xff\xff\xff", "\xff\xff\xff\xff\xff\xff\xff\xff\xff\x80\x00"} {
		if x, n, e := ReadVar([]byte(s)); x != 0 || n != 0 || e != api.ErrForm {
			t.Errorf("P104: % x: %v", s, e)
		}
	}
}
