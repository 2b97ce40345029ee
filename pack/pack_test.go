package pack_test

import (
	"bytes"
	"math"
	"math/rand"
	"slices"
	"testing"

	"telltale/api"
	"telltale/pack"
)

// data is a packet's, as the chapter tells it.
func data(p api.Packet) []byte {
	b := []byte{byte(p.Dev), byte(p.Chan), byte(p.Boot), byte(p.Seq >> 8), byte(p.Seq)}
	for i := 4; i >= 0; i-- {
		b = append(b, byte(p.Stamp>>(8*i)))
	}
	for _, v := range p.Vals {
		b = append(b, byte(uint16(v)>>8), byte(v))
	}
	return b
}

func alike(a, b api.Packet) bool {
	return a.Dev == b.Dev && a.Chan == b.Chan && a.Boot == b.Boot && a.Seq == b.Seq && a.Stamp == b.Stamp && slices.Equal(a.Vals, b.Vals)
}

func isZero(p api.Packet) bool {
	return p.Dev == 0 && p.Chan == 0 && p.Boot == 0 && p.Seq == 0 && p.Stamp == 0 && len(p.Vals) == 0
}

func randomly(rnd *rand.Rand) api.Packet {
	p := api.Packet{Dev: rnd.Intn(256), Chan: rnd.Intn(256), Boot: rnd.Intn(256), Seq: rnd.Intn(65536), Stamp: rnd.Intn(1 << 40)}
	for range 1 + rnd.Intn(8) {
		p.Vals = append(p.Vals, rnd.Intn(65536)-32768)
	}
	return p
}

func usual() api.Packet {
	return api.Packet{Dev: 1, Chan: 2, Boot: 3, Seq: 4 + 256*5, Stamp: 1<<32 + 2<<24 + 3<<16 + 4<<8 + 5, Vals: []int{258, -1}}
}

// P4.1: the order of fields, and how many bytes each has.
func TestData(t *testing.T) {
	got, is := pack.Data(usual())
	if !is || !bytes.Equal(got, []byte{1, 2, 3, 5, 4, 1, 2, 3, 4, 5, 1, 2, 255, 255}) {
		t.Error(got, is)
	}
	one := api.Packet{Vals: []int{0}}
	if got, is := pack.Data(one); !is || !bytes.Equal(got, make([]byte, 12)) {
		t.Error(got, is)
	}
	most := api.Packet{Dev: 255, Chan: 255, Boot: 255, Seq: 65535, Stamp: api.MaxStamp, Vals: []int{-1, -1, -1, -1, -1, -1, -1, -1}}
	if got, is := pack.Data(most); !is || !bytes.Equal(got, bytes.Repeat([]byte{255}, 26)) {
		t.Error(got, is)
	}
}

// each field's least and greatest number, and those beside them.
func TestRightEdges(t *testing.T) {
	fields := map[string]struct {
		put         func(p *api.Packet, n int)
		least, most int
	}{
		"Dev":   {func(p *api.Packet, n int) { p.Dev = n }, 0, 255},
		"Chan":  {func(p *api.Packet, n int) { p.Chan = n }, 0, 255},
		"Boot":  {func(p *api.Packet, n int) { p.Boot = n }, 0, 255},
		"Seq":   {func(p *api.Packet, n int) { p.Seq = n }, 0, 65535},
		"Stamp": {func(p *api.Packet, n int) { p.Stamp = n }, 0, 1<<40 - 1},
		"first": {func(p *api.Packet, n int) { p.Vals[0] = n }, -32768, 32767},
		"last":  {func(p *api.Packet, n int) { p.Vals[len(p.Vals)-1] = n }, -32768, 32767},
	}
	for name, f := range fields {
		for _, n := range []int{f.least, f.most, f.least + 1, f.most - 1} {
			p := usual()
			f.put(&p, n)
			if !pack.Right(p) {
				t.Error(name, n)
			}
			if got, is := pack.Data(p); !is || !bytes.Equal(got, data(p)) {
				t.Error(name, n, got, is)
			}
		}
		for _, n := range []int{f.least - 1, f.most + 1, math.MinInt, math.MaxInt, f.most + 1<<40, f.least - 1<<16} {
			p := usual()
			f.put(&p, n)
			if pack.Right(p) {
				t.Error(name, n)
			}
			if got, is := pack.Data(p); is || len(got) != 0 {
				t.Error(name, n, got, is)
			}
		}
	}
}

// P4.1: one to eight values, no less and no more.
func TestHowManyValues(t *testing.T) {
	for many := range 20 {
		p := usual()
		p.Vals = make([]int, many)
		want := many >= 1 && many <= 8
		if pack.Right(p) != want {
			t.Error(many)
		}
		got, is := pack.Data(p)
		if is != want || is && len(got) != 10+2*many || !is && len(got) != 0 {
			t.Error(many, got, is)
		}
	}
	p := usual()
	p.Vals = nil
	if pack.Right(p) {
		t.Error("no values")
	}
}

// P4.1, P2: of each length the error that its words name, and a zero packet with it.
func TestPacketErrors(t *testing.T) {
	for many := range 60 {
		want := api.OK
		switch {
		case many < 12:
			want = api.ErrShort
		case many > 26:
			want = api.ErrLong
		case many%2 == 1:
			want = api.ErrRange
		}
		p, err := pack.Packet(bytes.Repeat([]byte{7}, many))
		if err != want || err != api.OK && !isZero(p) {
			t.Error(many, p, err)
		}
		if err == api.OK && len(p.Vals) != (many-10)/2 {
			t.Error(many, p)
		}
	}
	if p, err := pack.Packet(nil); err != api.ErrShort || !isZero(p) {
		t.Error(p, err)
	}
}

// P4.2: packets are got from their data.
func TestThereAndBack(t *testing.T) {
	rnd := rand.New(rand.NewSource(1))
	for range 3000 {
		p := randomly(rnd)
		if !pack.Right(p) {
			t.Fatal(p)
		}
		b, is := pack.Data(p)
		if !is || !bytes.Equal(b, data(p)) {
			t.Fatal(p, b, is)
		}
		back, err := pack.Packet(b)
		if err != api.OK || !alike(back, p) {
			t.Fatal(p, back, err)
		}
	}
}

// P4.2: data is that of the packet that it holds.
func TestBackAndThere(t *testing.T) {
	rnd := rand.New(rand.NewSource(2))
	for range 3000 {
		b := make([]byte, 12+2*rnd.Intn(8))
		rnd.Read(b)
		p, err := pack.Packet(b)
		if err != api.OK || !pack.Right(p) {
			t.Fatal(b, p, err)
		}
		if back, is := pack.Data(p); !is || !bytes.Equal(back, b) {
			t.Fatal(b, p, back, is)
		}
	}
	for _, x := range []byte{0, 127, 128, 255} {
		b := bytes.Repeat([]byte{x}, 26)
		p, err := pack.Packet(b)
		if back, _ := pack.Data(p); err != api.OK || !bytes.Equal(back, b) {
			t.Error(x, p, err)
		}
	}
}

// P3: what comes out is new memory; what is handed in stays as it was.
func TestNewMemory(t *testing.T) {
	vals := []int{258, -1, 5, 5}
	p := usual()
	p.Vals = vals[:2]
	one, _ := pack.Data(p)
	one = one[:cap(one)]
	for i := range one {
		one[i] = 99
	}
	if !slices.Equal(vals, []int{258, -1, 5, 5}) {
		t.Error(vals)
	}
	b := append(data(usual()), 77)
	before := bytes.Clone(b)
	got, _ := pack.Packet(b[:len(b)-1])
	if !bytes.Equal(b, before) || !alike(got, usual()) {
		t.Error(b, got)
	}
	for i := range b {
		b[i] = 0
	}
	if !alike(got, usual()) {
		t.Error(got)
	}
	other, _ := pack.Packet(before[:len(before)-1])
	got.Vals[0] = 9
	if !alike(other, usual()) {
		t.Error(other)
	}
}
