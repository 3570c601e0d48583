package codec

import (
	"bytes"
	"math"
	"slices"
	"testing"

	"almanac/api"
	"almanac/crc"
	"almanac/ints"
)

func TestWriteRead(t *testing.T) { // P301, P302, P304
	w := NewWriter()
	if w.Int(-1) != w || w.Bytes([]byte("ab")) != w || w.List([]int{1, -2}) != w {
		t.Error("P301: another writer")
	}
	if b := w.Done(); string(b) != "\x01\x04ab\x04\x02\x03" {
		t.Errorf("P301: % x", b)
	}
	w.Done()[0] = 9
	b := w.Int(math.MinInt64).Int(300).Done()
	r := NewReader(b)
	for i := range b {
		b[i] = 0xFF // what was handed in is not kept
	}
	if r.Int() != -1 || string(r.Bytes(2)) != "ab" || !slices.Equal(r.List(2), []int{1, -2}) || r.Int() != math.MinInt64 {
		t.Error("P304: other things")
	}
	if r.End() != api.ErrForm {
		t.Error("P302: bytes are left")
	}
	if r.Between(300, 300) != 300 || r.End() != api.OK {
		t.Error("P302: Between, End")
	}
	if r.Int() != 0 || r.End() != api.ErrShort {
		t.Error("P302: Int over the end")
	}
	if NewReader(nil).End() != api.OK || len(NewWriter().Done()) != 0 {
		t.Error("P302: no bytes")
	}
}

func TestReaderErrors(t *testing.T) { // P302
	cases := []struct {
		name string
		b    []byte
		do   func(r *Reader) bool // whether zeros are told
		want api.Errno
	}{
		{"int", nil, func(r *Reader) bool { return r.Int() == 0 }, api.ErrShort},
		{"int form", []byte{0x80, 0}, func(r *Reader) bool { return r.Int() == 0 }, api.ErrForm},
		{"below", []byte{2}, func(r *Reader) bool { return r.Between(2, 9) == 0 }, api.ErrForm},
		{"above", []byte{20}, func(r *Reader) bool { return r.Between(2, 9) == 0 }, api.ErrForm},
		{"none between", []byte{4}, func(r *Reader) bool { return r.Between(3, 1) == 0 }, api.ErrForm},
		{"bytes below 0", []byte{1}, func(r *Reader) bool { return r.Bytes(5) == nil }, api.ErrForm},
		{"bytes above", []byte{6, 1, 2, 3}, func(r *Reader) bool { return r.Bytes(2) == nil }, api.ErrForm},
		{"bytes, most below 0", []byte{0}, func(r *Reader) bool { return r.Bytes(-1) == nil }, api.ErrForm},
		{"bytes short", []byte{6, 1, 2}, func(r *Reader) bool { return r.Bytes(9) == nil }, api.ErrShort},
		{"bytes, no count", []byte{0x80}, func(r *Reader) bool { return r.Bytes(9) == nil }, api.ErrShort},
		{"list above", []byte{6, 1, 1, 1}, func(r *Reader) bool { return r.List(2) == nil }, api.ErrForm},
		{"list below 0", []byte{3}, func(r *Reader) bool { return r.List(2) == nil }, api.ErrForm},
		{"list short", []byte{6, 1, 1}, func(r *Reader) bool { return r.List(3) == nil }, api.ErrShort},
		{"list form", []byte{6, 1, 0x80, 0, 1}, func(r *Reader) bool { return r.List(3) == nil }, api.ErrForm},
		{"list of very many", ints.Var(nil, ints.Zig(math.MaxInt64)), func(r *Reader) bool { return r.List(math.MaxInt) == nil }, api.ErrShort},
		{"bytes of very many", ints.Var(nil, ints.Zig(math.MaxInt64)), func(r *Reader) bool { return r.Bytes(math.MaxInt) == nil }, api.ErrShort},
	}
	for _, c := range cases {
		r := NewReader(c.b)
		if !c.do(r) {
			t.Errorf("P302: %s: not zero", c.name)
		}
		if e := r.End(); e != c.want {
			t.Errorf("P302: %s: %v; want %v", c.name, e, c.want)
		}
		if r.Int() != 0 || r.Between(0, 9) != 0 || r.Bytes(9) != nil || r.List(9) != nil || r.End() != c.want {
			t.Errorf("P302: %s: the error does not stay", c.name)
		}
	}
}

func TestFrame(t *testing.T) { // P303, P304
	if len(Frame(1, nil)) != 13 {
		t.Error("P303: length")
	}
	want := append(crc.Seal([]byte{7, 3, 0, 0, 0}), crc.Seal([]byte("abc"))...)
	f := Frame(7, []byte("abc"))
	if !bytes.Equal(f, want) {
		t.Errorf("P303: % x", f)
	}
	if k, p, n, e := ReadFrame(append(Frame(7, []byte("abc")), 1, 2)); k != 7 || string(p) != "abc" || n != 16 || e != api.OK {
		t.Errorf("P303: %d, %q, %d, %v", k, p, n, e)
	}
	check := func(name string, b []byte, want api.Errno) {
		if k, p, n, e := ReadFrame(b); k != 0 || p != nil || n != 0 || e != want {
			t.Errorf("P303: %s: %v; want %v", name, e, want)
		}
	}
	check("none", nil, api.ErrShort)
	check("eight", f[:8], api.ErrShort)
	check("head alone", f[:9], api.ErrShort)
	check("one less", f[:15], api.ErrShort)
	check("head turned", crc.Burst(f, 3, 1), api.ErrSum)
	check("payload turned", crc.Burst(f, 75, 1), api.ErrSum)
	long := crc.Seal([]byte{1, 1, 0, 16, 0})
	check("long", long, api.ErrLong)
	check("longest, short", crc.Seal([]byte{1, 0, 0, 16, 0}), api.ErrShort)
	if _, p, _, e := ReadFrame(Frame(1, make([]byte, api.MaxValue))); e != api.OK || len(p) != api.MaxValue {
		t.Errorf("P303: the longest: %v", e)
	}
	check("one longer", Frame(1, make([]byte, api.MaxValue+1)), api.ErrLong)
	for bit := range len(f) * 8 {
		for _, pattern := range []uint32{1, 0x80000001, 0xFFFFFFFF} {
			if x := crc.Burst(f, bit, pattern); !bytes.Equal(x, f) {
				if _, _, _, e := ReadFrame(x); e == api.OK {
					t.Errorf("P304: burst at %d is not found", bit)
				}
			}
		}
	}
}
