package serial_test

import (
	"math"
	"math/rand"
	"testing"

	"telltale/serial"
)

// plainly looks through the round about base.
func plainly(base, seq int) (int, bool) {
	if seq < 0 || seq > 65535 {
		return 0, false
	}
	i := base - 32768
	for (i%65536+65536)%65536 != seq {
		i++
	}
	if i < 0 {
		return 0, false
	}
	return i, true
}

func check(t *testing.T, base, seq int) {
	t.Helper()
	want, wantIs := plainly(base, seq)
	if i, is := serial.Unwrap(base, seq); i != want || is != wantIs {
		t.Fatalf("Unwrap(%d, %d) = %d, %v; want %d, %v", base, seq, i, is, want, wantIs)
	}
}

func bases() []int {
	return []int{0, 1, 2, 32766, 32767, 32768, 32769, 65534, 65535, 65536, 65537, 98303, 98304, 98305, 131071, 131072, 1 << 31, 1<<32 - 1, 1<<40 + 12345, 1<<59 + 77, 1<<60 - 1, 1 << 60}
}

// P6.1: the example, and behind 65535 comes 65536, which is sent as 0.
func TestExample(t *testing.T) {
	if i, is := serial.Unwrap(65535, 2); !is || i != 65538 {
		t.Error(i, is)
	}
	if i, is := serial.Unwrap(65535, 0); !is || i != 65536 {
		t.Error(i, is)
	}
	if got := serial.Low(65536); got != 0 {
		t.Error(got)
	}
}

// P6.1: just half a round ahead of base is told, just half a round behind it is not.
func TestHalfARound(t *testing.T) {
	for _, base := range []int{32768, 40000, 65536, 1 << 40} {
		if i, is := serial.Unwrap(base, (base+32768)%65536); !is || i != base-32768 {
			t.Error(base, i, is)
		}
		if i, is := serial.Unwrap(base, (base+32767)%65536); !is || i != base+32767 {
			t.Error(base, i, is)
		}
		if i, is := serial.Unwrap(base, (base+32769)%65536); !is || i != base-32767 {
			t.Error(base, i, is)
		}
	}
}

// P6.1: near the beginning there is no number below 0.
func TestBelowNought(t *testing.T) {
	for _, c := range []struct {
		base, seq, want int
		is              bool
	}{{0, 0, 0, true}, {0, 32767, 32767, true}, {0, 32768, 0, false}, {0, 65535, 0, false}, {5, 65535, 0, false}, {32767, 65535, 0, false}, {32768, 65535, 65535, true}, {32768, 0, 0, true}, {32769, 0, 65536, true}, {32767, 0, 0, true}, {32769, 1, 1, true}, {40000, 7000, 72536, true}} {
		if i, is := serial.Unwrap(c.base, c.seq); i != c.want || is != c.is {
			t.Error(c, i, is)
		}
	}
}

// P6.1: each base at an edge, with each seq, and others.
func TestUnwrap(t *testing.T) {
	rnd := rand.New(rand.NewSource(1))
	for _, base := range bases() {
		for range 200 {
			check(t, base, rnd.Intn(65536))
		}
		for d := -3; d <= 3; d++ {
			for _, near := range []int{0, 32768, 65535, base % 65536, base%65536 + 32768} {
				check(t, base, ((near+d)%65536+65536)%65536)
			}
		}
	}
	for range 2000 {
		check(t, rnd.Intn(1<<60+1), rnd.Intn(65536))
		check(t, rnd.Intn(1<<17), rnd.Intn(65536))
	}
}

// P6.1, P2: what is no number of sixteen bits is unwrapped to nothing.
func TestUnwrapWrong(t *testing.T) {
	for _, base := range bases() {
		for _, seq := range []int{-1, -2, -65536, -32768, 65536, 65537, 1 << 20, math.MinInt, math.MaxInt} {
			if i, is := serial.Unwrap(base, seq); is || i != 0 {
				t.Error(base, seq, i, is)
			}
		}
	}
}

// P6.1: what is left of a number.
func TestLow(t *testing.T) {
	rnd := rand.New(rand.NewSource(2))
	numbers := bases()
	for range 2000 {
		numbers = append(numbers, rnd.Intn(1<<60+1), rnd.Intn(1<<17))
	}
	for _, i := range numbers {
		if got := serial.Low(i); got != i%65536 {
			t.Fatal(i, got)
		}
	}
}

// P6.2: a number near its base is unwrapped of what is left of it.
func TestFoundAgain(t *testing.T) {
	rnd := rand.New(rand.NewSource(3))
	for _, base := range bases() {
		for range 500 {
			i := base - 32768 + rnd.Intn(65536)
			if i < 0 || i > 1<<60 {
				continue
			}
			if got, is := serial.Unwrap(base, serial.Low(i)); !is || got != i {
				t.Fatal(base, i, got, is)
			}
		}
	}
}

// P6.2: rows of numbers, each near the greatest ahead, come out as they were.
func TestRowsFoundAgain(t *testing.T) {
	rnd := rand.New(rand.NewSource(4))
	for range 30 {
		top := rnd.Intn(65536)
		for range 300 {
			i := top - 32768 + rnd.Intn(65536)
			if i < 0 {
				continue
			}
			got, is := serial.Unwrap(top, serial.Low(i))
			if !is || got != i {
				t.Fatal(top, i, got, is)
			}
			top = max(top, got)
		}
	}
}
