package super

import (
	"bytes"
	"math"
	"math/rand"
	"testing"

	"almanac/api"
	"almanac/codec"
	"almanac/crc"
	"almanac/disk"
	"almanac/geom"
	"almanac/ints"
)

var shape = api.Config{Sectors: 200, Sector: 64, Journal: 4, Segment: 5, Page: 16, Frames: 4, Procs: 4, Regions: 4, Pages: 64}

func block(epoch uint64) Block {
	return Block{Epoch: epoch, Config: shape, Root: api.Addr{Sector: 7, N: 50}, Seq: epoch + 9}
}

func newDisk(t *testing.T) *disk.Disk {
	t.Helper()
	d, e := disk.New(200, 64)
	if e != api.OK {
		t.Fatal(e)
	}
	return d
}

func TestEncode(t *testing.T) { // P2001
	b := block(0x0102030405060708)
	want := []byte("ALMANAC1\x08\x07\x06\x05\x04\x03\x02\x01\x11\x07\x06\x05\x04\x03\x02\x01")
	want = append(want, codec.NewWriter().Bytes(geom.Encode(shape)).Int(7).Int(50).Done()...)
	want = append(want, make([]byte, 60-len(want))...)
	want = ints.Put(want, uint64(crc.Sum(want)), 4)
	got, e := Encode(b)
	if e != api.OK || !bytes.Equal(got, want) {
		t.Errorf("P2001: % x; want % x", got, want)
	}
	if x, e := Decode(got); x != b || e != api.OK {
		t.Errorf("P2001: %v, %v", x, e)
	}
	for _, f := range []func(b *Block){func(b *Block) { b.Config.Procs = 0 }, func(b *Block) { b.Root.Sector = -1 }, func(b *Block) { b.Root.N = math.MinInt }} {
		x := b
		f(&x)
		if s, e := Encode(x); s != nil || e != api.ErrArg || Key(x) != [4]byte{} || Write(newDisk(t), x) != api.ErrArg {
			t.Errorf("P2001: %v: %v", x, e)
		}
	}
	long := b
	long.Root = api.Addr{Sector: math.MaxInt, N: math.MaxInt}
	long.Config = api.Config{Sectors: 65536, Sector: 64, Journal: 4096, Segment: 5, Page: 16, Frames: 4096, Procs: 64, Regions: 32, Pages: 65536}
	if s, e := Encode(long); s != nil || e != api.ErrLong || Key(long) != [4]byte{} || Write(newDisk(t), long) != api.ErrLong {
		t.Errorf("P2001: %v", e)
	}
	if s, e := Encode(Block{Epoch: math.MaxUint64, Config: shape, Root: api.Addr{Sector: 65535, N: 1 << 20}, Seq: math.MaxUint64}); len(s) != 64 || e != api.OK {
		t.Errorf("P2001: %v", e)
	}
	if sum := crc.Sum(got); Key(b) != [4]byte{byte(sum), byte(sum >> 8), byte(sum >> 16), byte(sum >> 24)} {
		t.Errorf("P2002: Key: % x", Key(b))
	}
}

func TestDecode(t *testing.T) { // P2001
	good, _ := Encode(block(3))
	for _, b := range [][]byte{nil, good[:63], crc.Seal(make([]byte, 59)), crc.Burst(good, 77, 5), append(bytes.Clone(good), 0)} {
		if x, e := Decode(b); x != (Block{}) || e != api.ErrSum {
			t.Errorf("P2001: %v", e)
		}
	}
	for i := range 60 {
		b := bytes.Clone(good[:60])
		b[i] ^= 0x40
		s := crc.Seal(b)
		x, e := Decode(s)
		if again, _ := Encode(x); e == api.OK && !bytes.Equal(again, s) || e != api.OK && (e != api.ErrForm || x != (Block{})) {
			t.Errorf("P2001: byte %d: %v", i, e)
		}
		if (i < 8 || i == 59) && e != api.ErrForm {
			t.Errorf("P2001: byte %d: %v", i, e)
		}
	}
	if _, e := Decode(crc.Seal(append(good[:60:60], make([]byte, 64)...))); e != api.ErrForm {
		t.Errorf("P2001: a longer one: %v", e)
	}
	if _, e := Decode(crc.Seal(make([]byte, 60))); e != api.ErrForm {
		t.Errorf("P2001: %v", e)
	}
}

func TestWriteRead(t *testing.T) { // P2002, P2003
	d := newDisk(t)
	if b, e := Read(d); b != (Block{}) || e != api.ErrCorrupt {
		t.Errorf("P2002: %v", e)
	}
	if Slot(4) != 0 || Slot(5) != 1 || Slot(math.MaxUint64) != 1 || Newer(block(4), block(4)) || !Newer(block(5), block(4)) || Newer(block(4), block(5)) {
		t.Error("P2002: Slot, Newer")
	}
	other, _ := disk.New(201, 64)
	if Write(other, block(1)) != api.ErrArg {
		t.Error("P2002: another shape")
	}
	d.Write(50, make([]byte, 64))
	if Write(d, block(0)) != api.OK || Write(d, block(1)) != api.OK || d.Pending() != 0 {
		t.Error("P2002: Write")
	}
	if b, e := Read(d); b != block(1) || e != api.OK {
		t.Errorf("P2002: %v, %v", b, e)
	}
	for bit := range 512 {
		x, _ := disk.Of(d.Bytes(), 64)
		x.Burst(1, bit, 0x80000001)
		if b, e := Read(x); b != block(0) || e != api.OK {
			t.Fatalf("P2003: %v, %v", b, e)
		}
	}
	s, _ := Encode(block(6))
	d.Write(1, s) // it does not stand in its slot
	if b, e := Read(d); b != block(0) || e != api.OK {
		t.Errorf("P2002: %v, %v", b, e)
	}
	wrong := block(8)
	wrong.Config.Sectors--
	s, _ = Encode(wrong)
	d.Write(0, s)
	if _, e := Read(d); e != api.ErrCorrupt {
		t.Errorf("P2002: a block of another shape: %v", e)
	}
	Write(d, block(0))
	d.Cut()
	if b, e := Read(d); b != (Block{}) || e != api.ErrDown || Write(d, block(1)) != api.ErrDown {
		t.Errorf("P2002: %v", e)
	}
	tiny, _ := disk.New(1, 64)
	if _, e := Read(tiny); e != api.ErrCorrupt {
		t.Errorf("P2002: one sector: %v", e)
	}
	empty := block(0)
	empty.Seq, empty.Root = 0, api.Addr{}
	d.On()
	Write(d, empty)
	if b, e := Read(d); b != empty || e != api.OK {
		t.Errorf("P2002: %v, %v", b, e)
	}
}

func TestCuts(t *testing.T) { // P2003
	r := rand.New(rand.NewSource(1))
	for range 500 {
		d := newDisk(t)
		epoch := uint64(r.Intn(9))
		Write(d, block(epoch))
		next := block(epoch + uint64(1+r.Intn(2)))
		d.Write(9, make([]byte, 64))
		d.Arm(1, r.Intn(2) == 0, r.Intn(2) == 0)
		if Write(d, next) != api.ErrDown {
			t.Fatal("P2002")
		}
		d.On()
		if b, e := Read(d); b != block(epoch) || e != api.OK {
			t.Fatalf("P2003: %v, %v", b, e)
		}
	}
}
