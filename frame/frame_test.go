package frame_test

import (
	"bytes"
	"hash/crc32"
	"math/rand"
	"testing"

	"telltale/api"
	"telltale/frame"
)

// framed is data's frame, as the chapter tells it.
func framed(data []byte) []byte {
	body := append([]byte{byte(len(data))}, data...)
	sum := crc32.ChecksumIEEE(body)
	out := append([]byte{0xA5}, body...)
	return append(out, byte(sum>>24), byte(sum>>16), byte(sum>>8), byte(sum))
}

func bytesOf(rnd *rand.Rand, many int) []byte {
	b := make([]byte, many)
	rnd.Read(b)
	return b
}

func joined(parts ...[]byte) []byte { return bytes.Join(parts, nil) }

// alike: are these the same rows of bytes, be they nil or empty?
func alike(a, b [][]byte) bool {
	if len(a) != len(b) {
		return false
	}
	for i := range a {
		if !bytes.Equal(a[i], b[i]) {
			return false
		}
	}
	return true
}

// check splits b, and holds what comes of it against what is wanted.
func check(t *testing.T, b []byte, frames [][]byte, rest []byte, passed int) {
	t.Helper()
	f, r, p := frame.Split(b)
	if !alike(f, frames) || !bytes.Equal(r, rest) || p != passed {
		t.Errorf("Split(%x) = %x, %x, %d; want %x, %x, %d", b, f, r, p, frames, rest, passed)
	}
}

// P3.1: the frame of each length of data, from none to the most.
func TestFrame(t *testing.T) {
	rnd := rand.New(rand.NewSource(1))
	for many := 0; many <= api.MaxData; many++ {
		data := bytesOf(rnd, many)
		got, is := frame.Frame(data)
		if !is || !bytes.Equal(got, framed(data)) {
			t.Fatalf("Frame(%x) = %x, %v", data, got, is)
		}
	}
	got, is := frame.Frame(nil)
	if !is || !bytes.Equal(got, []byte{0xA5, 0, 0xD2, 0x02, 0xEF, 0x8D}) {
		t.Errorf("%x %v", got, is)
	}
}

// P3.1, P2: data that is too long has no frame.
func TestFrameTooLong(t *testing.T) {
	for _, many := range []int{256, 257, 511, 512, 1000, 65536} {
		if got, is := frame.Frame(make([]byte, many)); is || len(got) != 0 {
			t.Error(many, len(got), is)
		}
	}
}

// P3.1: the example, a frame, a byte 0, half a frame.
func TestSplitExample(t *testing.T) {
	one := framed([]byte{1, 2, 3})
	two := framed([]byte{4, 5, 6, 7})
	half := two[:5]
	check(t, joined(one, []byte{0}, half), [][]byte{{1, 2, 3}}, half, 1)
}

// P3.1: no bytes, bytes without a mark, a mark alone, and each length of half a frame.
func TestSplitEdges(t *testing.T) {
	check(t, nil, nil, nil, 0)
	check(t, []byte{}, nil, nil, 0)
	check(t, []byte{0, 1, 2, 0xA4, 0xA6}, nil, nil, 5)
	check(t, []byte{0xA5}, nil, []byte{0xA5}, 0)
	check(t, []byte{7, 0xA5}, nil, []byte{0xA5}, 1)
	whole := framed([]byte("data"))
	for many := range len(whole) {
		check(t, whole[:many], nil, whole[:many], 0)
	}
	check(t, whole, [][]byte{[]byte("data")}, nil, 0)
	empty := framed(nil)
	check(t, joined(empty, empty), [][]byte{{}, {}}, nil, 0)
	full := framed(bytes.Repeat([]byte{0xA5}, 255))
	check(t, full, [][]byte{bytes.Repeat([]byte{0xA5}, 255)}, nil, 0)
	check(t, full[:len(full)-1], nil, full[:len(full)-1], 0)
}

// P3.1: of a spoilt frame one byte is passed over, and the search goes on right behind it.
func TestSplitSpoilt(t *testing.T) {
	inner := framed([]byte{8, 9})
	outer := framed(joined([]byte{1}, inner, []byte{2}))
	check(t, outer, [][]byte{joined([]byte{1}, inner, []byte{2})}, nil, 0)
	outer[len(outer)-1] ^= 1
	check(t, outer, [][]byte{{8, 9}}, nil, len(outer)-len(inner))

	for at := 1; at < len(inner); at++ {
		for bit := range 8 {
			spoilt := bytes.Clone(inner)
			spoilt[at] ^= 1 << bit
			behind := joined(spoilt, make([]byte, 300))
			f, r, p := frame.Split(behind)
			if len(f) != 0 || len(r) != 0 || p != len(behind) {
				t.Fatal(at, bit, f, r, p)
			}
		}
	}
	// A mark whose count asks for more than there is hides what stands behind it, until more comes.
	hidden := joined([]byte{0xA5, 200}, inner)
	check(t, hidden, nil, hidden, 0)
	check(t, joined(hidden, make([]byte, 206-len(hidden))), [][]byte{{8, 9}}, nil, 2+206-len(hidden))
	check(t, joined(hidden, make([]byte, 205-len(hidden))), nil, joined(hidden, make([]byte, 205-len(hidden))), 0)
	// Two marks: the second one begins a frame.
	tail := make([]byte, 200)
	check(t, joined([]byte{0xA5}, inner, tail), [][]byte{{8, 9}}, nil, 1+len(tail))
}

// stream is frames, spoilt ones and other bytes, one behind the other.
func stream(rnd *rand.Rand) []byte {
	var out []byte
	for range rnd.Intn(8) {
		switch rnd.Intn(6) {
		case 0:
			out = append(out, bytesOf(rnd, rnd.Intn(12))...)
		case 1:
			f := framed(bytesOf(rnd, rnd.Intn(20)))
			f[rnd.Intn(len(f))] ^= byte(1 + rnd.Intn(255))
			out = append(out, f...)
		case 2:
			f := framed(bytesOf(rnd, rnd.Intn(9)))
			out = append(out, f[:rnd.Intn(len(f))]...)
		case 3:
			out = append(out, bytes.Repeat([]byte{0xA5}, rnd.Intn(4))...)
		default:
			out = append(out, framed(bytesOf(rnd, rnd.Intn(30)))...)
		}
	}
	return out
}

// plainly splits by the chapter's words.
func plainly(b []byte) (frames [][]byte, rest []byte, passed int) {
	for len(b) > 0 {
		if b[0] != 0xA5 {
			b, passed = b[1:], passed+1
			continue
		}
		if len(b) < 2 || len(b) < int(b[1])+6 {
			return frames, b, passed
		}
		data := b[2 : 2+int(b[1])]
		if f := framed(data); bytes.Equal(f, b[:len(f)]) {
			frames, b = append(frames, data), b[len(f):]
			continue
		}
		b, passed = b[1:], passed+1
	}
	return frames, nil, passed
}

// P3.1: streams of all kinds are split as the chapter tells.
func TestSplitStreams(t *testing.T) {
	rnd := rand.New(rand.NewSource(2))
	for range 3000 {
		b := stream(rnd)
		f, r, p := plainly(b)
		check(t, b, f, r, p)
	}
}

// P3.2: frames one behind the other are split to their data.
func TestThereAndBack(t *testing.T) {
	rnd := rand.New(rand.NewSource(3))
	for range 300 {
		var all []byte
		var want [][]byte
		for range rnd.Intn(10) {
			data := bytesOf(rnd, rnd.Intn(256))
			f, is := frame.Frame(data)
			if !is {
				t.Fatal(data)
			}
			all, want = append(all, f...), append(want, data)
		}
		check(t, all, want, nil, 0)
	}
}

// P3.3: whatever the parts, the frames, the rest and the count are those of the whole.
func TestParts(t *testing.T) {
	rnd := rand.New(rand.NewSource(4))
	for range 1500 {
		b := stream(rnd)
		want, wantRest, wantPassed := frame.Split(b)
		var got [][]byte
		var rest []byte
		passed := 0
		for at := 0; at < len(b); {
			end := min(len(b), at+rnd.Intn(1+rnd.Intn(20)))
			f, r, p := frame.Split(joined(rest, b[at:end]))
			got, rest, passed, at = append(got, f...), r, passed+p, end
		}
		if !alike(got, want) || !bytes.Equal(rest, wantRest) || passed != wantPassed {
			t.Fatalf("%x: %x, %x, %d", b, got, rest, passed)
		}
	}
}

// spoil changes a row, and its spare room.
func spoil(b []byte) {
	b = b[:cap(b)]
	for i := range b {
		b[i] ^= 0xFF
	}
}

// P3: what comes out is new memory, each list its own; what is handed in stays as it was.
func TestNewMemory(t *testing.T) {
	one, two := framed([]byte{1, 2, 3}), framed([]byte{4, 5})
	whole := joined(one, []byte{0}, two, []byte{0xA5, 9, 9}, []byte{7, 7, 7, 7})
	in := whole[:len(whole)-4]
	before := bytes.Clone(whole)
	f, r, p := frame.Split(in)
	if len(f) != 2 || p != 1 {
		t.Fatal(f, r, p)
	}
	spoil(f[0])
	if !bytes.Equal(f[1], []byte{4, 5}) || !bytes.Equal(r, []byte{0xA5, 9, 9}) {
		t.Error(f, r)
	}
	spoil(f[1])
	if !bytes.Equal(r, []byte{0xA5, 9, 9}) {
		t.Error(r)
	}
	spoil(r)
	if !bytes.Equal(whole, before) {
		t.Errorf("%x", whole)
	}
	check(t, in, [][]byte{{1, 2, 3}, {4, 5}}, []byte{0xA5, 9, 9}, 1)

	data := []byte{1, 2, 3, 7, 7, 7, 7, 7, 7, 7}
	made, _ := frame.Frame(data[:3])
	spoil(made)
	if !bytes.Equal(data, []byte{1, 2, 3, 7, 7, 7, 7, 7, 7, 7}) {
		t.Error(data)
	}
	if again, _ := frame.Frame(data[:3]); !bytes.Equal(again, one) {
		t.Error(again)
	}
	f, _, _ = frame.Split(in)
	spoil(whole)
	if !bytes.Equal(f[0], []byte{1, 2, 3}) {
		t.Error(f)
	}
}
