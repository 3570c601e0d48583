package crc

import (
	"bytes"
	"hash/crc32"
	"math"
	"math/rand"
	"testing"

	"almanac/api"
)

func TestSumJoin(t *testing.T) { // P201, P203
	if Sum() != 0 || Sum(nil, []byte{}) != 0 || Sum([]byte("1234"), nil, []byte("56789")) != 0xE3069283 {
		t.Error("P201: Sum")
	}
	r := rand.New(rand.NewSource(1))
	castagnoli := crc32.MakeTable(crc32.Castagnoli)
	for range 200 {
		a, b := make([]byte, r.Intn(300)), make([]byte, r.Intn(300))
		r.Read(a)
		r.Read(b)
		both := append(append([]byte{}, a...), b...)
		if Sum(a, b) != crc32.Checksum(both, castagnoli) {
			t.Fatal("P201: Sum")
		}
		if Join(Sum(a), Sum(b), len(b)) != Sum(both) {
			t.Fatal("P201: Join")
		}
		c := make([]byte, len(a))
		d := make([]byte, len(a))
		mixed := make([]byte, len(a))
		r.Read(c)
		r.Read(d)
		for i := range a {
			mixed[i] = a[i] ^ c[i] ^ d[i]
		}
		if Sum(mixed) != Sum(a)^Sum(c)^Sum(d) {
			t.Fatal("P203: Sum of mixed")
		}
	}
	if Join(5, 7, 0) != 5 || Join(5, 7, -3) != 5 || Join(5, 7, math.MinInt) != 5 {
		t.Error("P201: Join of none")
	}
	big := make([]byte, 1<<20)
	if Join(Sum([]byte("x")), Sum(big), len(big)) != Sum([]byte("x"), big) {
		t.Error("P201: Join of many")
	}
	Join(1, 2, math.MaxInt)
}

func TestSealOpen(t *testing.T) { // P202
	if b := Seal(nil); !bytes.Equal(b, make([]byte, 4)) {
		t.Errorf("P202: % x", b)
	}
	if b := Seal([]byte("123456789")); string(b[9:]) != "\x83\x92\x06\xe3" {
		t.Errorf("P202: % x", b)
	}
	for n := range 4 {
		if b, e := Open(make([]byte, n)); e != api.ErrShort || b != nil {
			t.Errorf("P202: %d: %v", n, e)
		}
	}
	if b, e := Open(make([]byte, 4)); e != api.OK || len(b) != 0 {
		t.Errorf("P202: %v", e)
	}
	s := Seal([]byte("abc"))
	b, e := Open(s)
	if e != api.OK || string(b) != "abc" {
		t.Errorf("P202: %q, %v", b, e)
	}
	b[0] = 'x'
	if s[0] != 'a' {
		t.Error("P2: Open shares")
	}
	if b, e := Open([]byte("abcdefg")); e != api.ErrSum || b != nil {
		t.Errorf("P202: %v", e)
	}
}

func TestBurst(t *testing.T) { // P202, P203
	b := make([]byte, 9)
	room := b[:6]
	for bit := range 60 {
		got := Burst(room, bit, 0x80000001)
		for i := range 48 {
			want := i == bit || i == bit+31
			if (got[i/8]>>(i%8)&1 == 1) != want {
				t.Fatalf("P202: %d: % x", bit, got)
			}
		}
	}
	if !bytes.Equal(b, make([]byte, 9)) {
		t.Error("P2: Burst")
	}
	for _, bit := range []int{-1, math.MinInt, math.MaxInt, 48} {
		if got := Burst(room, bit, math.MaxUint32); !bytes.Equal(got, room) {
			t.Errorf("P202: %d: % x", bit, got)
		}
	}
	r := rand.New(rand.NewSource(2))
	for range 2000 {
		b := make([]byte, r.Intn(40))
		r.Read(b)
		s := Seal(b)
		x := Burst(s, r.Intn(len(s)*8), r.Uint32())
		if _, e := Open(x); (e == api.ErrSum) != !bytes.Equal(x, s) {
			t.Fatalf("P203: %v", e)
		}
	}
}
