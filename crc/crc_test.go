package crc_test

import (
	"hash/crc32"
	"math"
	"math/rand"
	"slices"
	"testing"

	"telltale/crc"
)

// bySteps is the sum as the chapter tells it, bit by bit.
func bySteps(b []byte) int {
	sum := uint32(math.MaxUint32)
	for _, x := range b {
		sum ^= uint32(x)
		for range 8 {
			if sum%2 == 1 {
				sum = sum/2 ^ 0xEDB88320
			} else {
				sum /= 2
			}
		}
	}
	return int(^sum)
}

func bytesOf(rnd *rand.Rand, many int) []byte {
	b := make([]byte, many)
	rnd.Read(b)
	return b
}

// P2.1: the example, and sums that are known of CRC-32 elsewhere.
func TestKnownSums(t *testing.T) {
	for text, want := range map[string]int{
		"123456789": 0xCBF43926,
		"":          0,
		"a":         0xE8B7BE43,
		"abc":       0x352441C2,
		"The quick brown fox jumps over the lazy dog": 0x414FA339,
	} {
		if got := crc.Sum([]byte(text)); got != want {
			t.Errorf("Sum(%q) = %#x", text, got)
		}
	}
	if got := crc.Sum(nil); got != 0 {
		t.Error(got)
	}
}

// P2.1: each byte alone, and rows of all lengths, have the sum that the steps tell.
func TestSumBySteps(t *testing.T) {
	for i := range 256 {
		b := []byte{byte(i)}
		if got := crc.Sum(b); got != bySteps(b) {
			t.Fatal(i, got)
		}
	}
	rnd := rand.New(rand.NewSource(1))
	for many := range 600 {
		b := bytesOf(rnd, many)
		got := crc.Sum(b)
		if got != bySteps(b) || got != int(crc32.ChecksumIEEE(b)) || got < 0 || got > math.MaxUint32 {
			t.Fatal(b, got)
		}
	}
	for many := range 40 {
		for _, x := range []byte{0, 255, 0xA5} {
			b := make([]byte, many)
			for i := range b {
				b[i] = x
			}
			if got := crc.Sum(b); got != bySteps(b) {
				t.Fatal(b, got)
			}
		}
	}
}

// P2.2: wherever bytes are parted, the sum goes on, also over many parts and empty ones.
func TestParts(t *testing.T) {
	rnd := rand.New(rand.NewSource(2))
	for range 60 {
		b := bytesOf(rnd, rnd.Intn(60))
		want := bySteps(b)
		for at := 0; at <= len(b); at++ {
			if got := crc.More(crc.Sum(b[:at]), b[at:]); got != want {
				t.Fatal(b, at, got)
			}
		}
		sum := crc.Sum(nil)
		for _, x := range b {
			sum = crc.More(sum, nil)
			sum = crc.More(sum, []byte{x})
		}
		if sum != want {
			t.Fatal(b, sum)
		}
	}
}

// P2.1: of a sum that is none only the lowest 32 bits count, and with no bytes they come out.
func TestMoreOfAnySum(t *testing.T) {
	rnd := rand.New(rand.NewSource(3))
	sums := []int{0, 1, -1, math.MaxUint32, math.MaxUint32 + 1, math.MinInt, math.MaxInt, -1 << 32, 1 << 40, -5}
	for range 200 {
		sums = append(sums, int(rnd.Uint64()))
	}
	for _, sum := range sums {
		low := int(uint32(sum))
		if got := crc.More(sum, nil); got != low {
			t.Fatal(sum, got)
		}
		b := bytesOf(rnd, 1+rnd.Intn(9))
		want := int(crc32.Update(uint32(sum), crc32.IEEETable, b))
		if got := crc.More(sum, b); got != want || got != crc.More(low, b) {
			t.Fatal(sum, b, got)
		}
	}
}

// P2.3: whatever differs in no more than 32 bits one behind the other has another sum.
func TestToldApart(t *testing.T) {
	rnd := rand.New(rand.NewSource(4))
	for range 3000 {
		b := bytesOf(rnd, 1+rnd.Intn(40))
		other := slices.Clone(b)
		wide := min(32, 8*len(b))
		from := rnd.Intn(8*len(b) - wide + 1)
		turned := rnd.Uint32()
		if turned<<(32-wide) == 0 {
			turned = 1
		}
		for i := range wide {
			if turned>>i&1 == 1 {
				other[(from+i)/8] ^= 1 << ((from + i) % 8)
			}
		}
		if crc.Sum(b) == crc.Sum(other) {
			t.Fatal(b, other)
		}
	}
	b := bytesOf(rnd, 30)
	for bit := range 8 * len(b) {
		other := slices.Clone(b)
		other[bit/8] ^= 1 << (bit % 8)
		if crc.Sum(b) == crc.Sum(other) {
			t.Fatal(bit)
		}
	}
}

// P3: what is handed in is not changed, and nothing is kept from call to call.
func TestKeepsNothing(t *testing.T) {
	b := []byte("123456789....")
	for range 3 {
		if got := crc.Sum(b[:9]); got != 0xCBF43926 {
			t.Fatal(got)
		}
		if got := crc.More(crc.Sum(b[:4]), b[4:9]); got != 0xCBF43926 {
			t.Fatal(got)
		}
	}
	if string(b) != "123456789...." {
		t.Error(string(b))
	}
}
