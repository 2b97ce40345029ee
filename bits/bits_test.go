package bits_test

import (
	"math"
	"math/rand"
	"slices"
	"testing"

	"telltale/bits"
)

// power is 256^many, for up to seven.
func power(many int) int { return 1 << (8 * many) }

// checkPut puts n and holds the bytes against those that division tells.
func checkPut(t *testing.T, n, many int) {
	t.Helper()
	got, is := bits.Put(n, many)
	if !is || len(got) != many {
		t.Fatalf("Put(%d, %d) = %v, %v", n, many, got, is)
	}
	left := n
	for i := many - 1; i >= 0; i-- {
		if int(got[i]) != left%256 {
			t.Fatalf("Put(%d, %d) = %v", n, many, got)
		}
		left /= 256
	}
	if back, is := bits.Get(got); !is || back != n {
		t.Fatalf("Get(%v) = %d, %v, not %d", got, back, is, n)
	}
}

// P1.1: the example.
func TestPutExample(t *testing.T) {
	got, is := bits.Put(258, 2)
	if !is || !slices.Equal(got, []byte{1, 2}) {
		t.Fatal(got, is)
	}
}

// P1.1, P1.2: numbers at the ends of what each count of bytes holds, and some between.
func TestPutThereAndBack(t *testing.T) {
	rnd := rand.New(rand.NewSource(1))
	for many := 1; many <= 7; many++ {
		top := power(many) - 1
		for _, n := range []int{0, 1, 2, 127, 128, 254, 255, top, top - 1, top / 2, top/2 + 1, top / 3} {
			if n >= 0 {
				checkPut(t, n, many)
			}
		}
		for range 300 {
			checkPut(t, rnd.Intn(top+1), many)
		}
	}
	for n := range power(2) {
		checkPut(t, n, 2)
	}
}

// P1.1, P2: what does not fit, or is no count, has no bytes.
func TestPutWrong(t *testing.T) {
	for many := 1; many <= 7; many++ {
		for _, n := range []int{power(many), power(many) + 1, -1, -power(many), math.MinInt, math.MaxInt} {
			if got, is := bits.Put(n, many); is || len(got) != 0 {
				t.Errorf("Put(%d, %d) = %v, %v", n, many, got, is)
			}
		}
	}
	for _, many := range []int{0, -1, -7, 8, 9, 64, math.MinInt, math.MaxInt} {
		for _, n := range []int{0, 1, 255, -1, math.MaxInt, math.MinInt} {
			if got, is := bits.Put(n, many); is || len(got) != 0 {
				t.Errorf("Put(%d, %d) = %v, %v", n, many, got, is)
			}
		}
	}
}

// P1.1, P1.2: bytes are a number, and that number those bytes.
func TestGet(t *testing.T) {
	rnd := rand.New(rand.NewSource(2))
	for many := 1; many <= 7; many++ {
		for range 300 {
			b := make([]byte, many)
			rnd.Read(b)
			n, is := bits.Get(b)
			if !is {
				t.Fatal(b)
			}
			if back, is := bits.Put(n, many); !is || !slices.Equal(back, b) {
				t.Fatal(b, n, back, is)
			}
		}
	}
	for i := range 256 {
		if n, is := bits.Get([]byte{byte(i)}); !is || n != i {
			t.Fatal(i, n, is)
		}
	}
	if n, is := bits.Get([]byte{1, 2, 3}); !is || n != 0x010203 {
		t.Fatal(n, is)
	}
	if n, is := bits.Get([]byte{255, 255, 255, 255, 255, 255, 255}); !is || n != 1<<56-1 {
		t.Fatal(n, is)
	}
}

// P1.1, P2: no bytes, or too many, are no number.
func TestGetWrong(t *testing.T) {
	for _, many := range []int{0, 8, 9, 16, 300} {
		b := make([]byte, many)
		for i := range b {
			b[i] = 1
		}
		if n, is := bits.Get(b); is || n != 0 {
			t.Error(many, n, is)
		}
	}
	if n, is := bits.Get(nil); is || n != 0 {
		t.Error(n, is)
	}
}

// P1.1, P1.2: signs are put and taken, for each number that has one.
func TestSigns(t *testing.T) {
	for n := range 65536 {
		want := n
		if n > 32767 {
			want = n - 65536
		}
		if got := bits.Sign(n); got != want {
			t.Fatalf("Sign(%d) = %d", n, got)
		}
		if got := bits.Bare(want); got != n {
			t.Fatalf("Bare(%d) = %d", want, got)
		}
	}
}

// P1.1: of other numbers both tell 0.
func TestSignsWrong(t *testing.T) {
	for _, n := range []int{-1, -2, -32768, 65536, 65537, 1 << 17, 1<<32 + 5, math.MinInt, math.MaxInt} {
		if got := bits.Sign(n); got != 0 {
			t.Errorf("Sign(%d) = %d", n, got)
		}
	}
	for _, n := range []int{-32769, -65535, -65536, 32768, 65535, 65536, 1<<32 + 5, math.MinInt, math.MaxInt} {
		if got := bits.Bare(n); got != 0 {
			t.Errorf("Bare(%d) = %d", n, got)
		}
	}
}

// P3: what was put is new memory, and what is handed in is not changed.
func TestNewMemory(t *testing.T) {
	one, _ := bits.Put(258, 2)
	whole := one[:cap(one)]
	for i := range whole {
		whole[i] = 9
	}
	if two, _ := bits.Put(258, 2); !slices.Equal(two, []byte{1, 2}) {
		t.Error(two)
	}
	b := []byte{3, 4, 7, 7}
	if n, _ := bits.Get(b[:2]); n != 3*256+4 || !slices.Equal(b, []byte{3, 4, 7, 7}) {
		t.Error(n, b)
	}
}
