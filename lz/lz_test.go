package lz

import (
	"bytes"
	"math"
	"math/rand"
	"strings"
	"testing"

	"almanac/api"
	"almanac/ints"
)

func TestUnpack(t *testing.T) { // P401, P402
	good := map[string]string{
		"\x00":                        "",
		"\x01":                        "",
		"\x00abc":                     "abc",
		"\x01\x06abc\x0b\x03":         "abcabcab",
		"\x01\x02a\x0f\x01":           "aaaaaaaa",
		"\x01\x04ab\x03\x02\x02c":     "abac",
		"\x01\x06abc\x05\x01\x05\x05": "abcccab",
	}
	for b, want := range good {
		out, e := Unpack([]byte(b), len(want))
		n, e2 := Check([]byte(b), len(want))
		if e != api.OK || string(out) != want || e2 != api.OK || n != len(want) {
			t.Errorf("P402: %q: %q, %v; %d, %v", b, out, e, n, e2)
		}
		if _, e := Unpack([]byte(b), len(want)-1); len(want) > 0 && e != api.ErrLong {
			t.Errorf("P402: %q, one less: %v", b, e)
		}
		if _, e := Unpack([]byte(b), -7); len(want) == 0 && e != api.OK || len(want) > 0 && e != api.ErrLong {
			t.Errorf("P402: %q, below 0: %v", b, e)
		}
	}
	bad := []struct {
		b    string
		most int
		want api.Errno
	}{
		{"", 9, api.ErrShort},
		{"\x02", 9, api.ErrForm},
		{"\x01\x00", 9, api.ErrForm},              // a literal of none
		{"\x01\x01\x01", 9, api.ErrForm},          // a copy of none
		{"\x01\x01", 9, api.ErrForm},              // t's form ahead of d's end
		{"\x01\x03", 9, api.ErrShort},             // no d
		{"\x01\x80", 9, api.ErrShort},             // no t
		{"\x01\x80\x00", 9, api.ErrForm},          // t is none
		{"\x01\x02a\x03\x80\x00", 9, api.ErrForm}, // d is none
		{"\x01\x02a\x03\x00", 9, api.ErrForm},     // d is 0
		{"\x01\x02a\x03\x02", 9, api.ErrForm},     // d is over the beginning
		{"\x01\x02a\x15\x02", 9, api.ErrForm},     // d ahead of the length
		{"\x01\x02a\x15\x01", 9, api.ErrLong},     // ten more
		{"\x01\x06ab", 9, api.ErrShort},           // a literal ends
		{"\x01\x06ab", 2, api.ErrLong},            // the length ahead of the end
		{"\x01\x02a\x80", 9, api.ErrShort},        // another t
		{"\x00abc", 2, api.ErrLong},               // raw
		{"\x01\xfe\xff\xff\xff\xff\xff\xff\xff\xff\x01", math.MaxInt, api.ErrShort},
		{"\x01\x02a\xff\xff\xff\xff\xff\xff\xff\xff\xff\x01\x01", math.MaxInt, api.ErrLong},
	}
	for _, c := range bad {
		out, e := Unpack([]byte(c.b), c.most)
		n, e2 := Check([]byte(c.b), c.most)
		if e != c.want || e2 != c.want || out != nil || n != 0 {
			t.Errorf("P402: %q: %v, %v; want %v", c.b, e, e2, c.want)
		}
	}
}

func TestVeryLong(t *testing.T) { // P1: more bytes than any answer may have
	b := append(ints.Var([]byte("\x01\x02a"), 1<<50|1), 1)
	if n, e := Check(b, math.MaxInt); n != 1<<49+1 || e != api.OK {
		t.Errorf("P402: %d, %v", n, e)
	}
	if out, e := Unpack(b, math.MaxInt); out != nil || e != api.ErrLong {
		t.Errorf("P1: %v", e)
	}
}

func TestCopies(t *testing.T) { // P402
	if l, c, e := Copies([]byte("\x01\x06abc\x0b\x03")); l != 3 || c != 5 || e != api.OK {
		t.Errorf("P402: %d, %d, %v", l, c, e)
	}
	if l, c, e := Copies([]byte("\x00abc")); l != 3 || c != 0 || e != api.OK {
		t.Errorf("P402: %d, %d, %v", l, c, e)
	}
	if l, c, e := Copies([]byte("\x01\x02a\x00")); l != 0 || c != 0 || e != api.ErrForm {
		t.Errorf("P402: %d, %d, %v", l, c, e)
	}
	for n, want := range map[uint64]api.Errno{1<<20 - 1: api.OK, 1 << 20: api.ErrLong} {
		b := append(ints.Var([]byte("\x01\x02a"), n<<1|1), 1)
		if _, _, e := Copies(b); e != want {
			t.Errorf("P402: %d: %v", n, e)
		}
	}
}

func TestPack(t *testing.T) { // P403, P404
	check := func(b []byte, most int) {
		t.Helper()
		p := Pack(b)
		out, e := Unpack(p, len(b))
		if e != api.OK || !bytes.Equal(out, b) {
			t.Fatalf("P404: %d bytes: %v", len(b), e)
		}
		if len(p) > min(most, len(b)+1) {
			t.Fatalf("P403: %d bytes: %d; most %d", len(b), len(p), most)
		}
	}
	for _, n := range []int{0, 1, 7, 8, 9, 16, 17, 100, 4096, 1 << 20} {
		most := 16
		if n < 8 {
			most = n + 1
		}
		check(bytes.Repeat([]byte{0}, n), most)
		check(bytes.Repeat([]byte{0xEE}, n), most)
	}
	r := rand.New(rand.NewSource(3))
	for i := range 1500 {
		n := 32 + r.Intn(300)
		if i%20 == 0 {
			n = 8191 - r.Intn(3)
		}
		kinds := 1 + r.Intn(1+i%255)
		row := make([]byte, n)
		for j := range row {
			row[j] = byte(r.Intn(kinds))
			if j > 20 && r.Intn(9) == 0 {
				j2 := r.Intn(j)
				row[j] = row[j2]
			}
		}
		check(append(append([]byte{}, row...), row...), n+8)
		check(row, n+1)
	}
	for i := range 300 {
		b := make([]byte, i)
		r.Read(b)
		check(b, i+1)
	}
	b := []byte(strings.Repeat("one two ", 40))
	Pack(b)[0] = 9
	if string(b) != strings.Repeat("one two ", 40) || len(Pack(b)) > 30 {
		t.Error("P2, P403")
	}
}

func FuzzUnpack(f *testing.F) { // P1: of any bytes it ends
	f.Add([]byte("\x01\x06abc\x0b\x03"))
	f.Fuzz(func(t *testing.T, b []byte) {
		out, e := Unpack(b, 1000)
		n, e2 := Check(b, 1000)
		if e != e2 || n != len(out) || n > 1000 {
			t.Errorf("%v, %v, %d, %d", e, e2, n, len(out))
		}
	})
}
