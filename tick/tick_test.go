package tick_test

import (
	"math/rand"
	"testing"

	"telltale/api"
	"telltale/tick"
)

const far = 1 << 52

func setting(period, bound int) api.Conf {
	return api.Conf{Period: period, Horizon: 4, Cap: 16, Max: 15, Rho: 100, Bound: bound, Window: 64, Stale: 3, Steps: [][]int{{10}}}
}

// half is of a number, downwards.
func half(n int) int {
	if n < 0 && n%2 != 0 {
		return n/2 - 1
	}
	return n / 2
}

func size(n int) int { return max(n, -n) }

// checkNear: no tick is nearer, and the next one is not as near.
func checkNear(t *testing.T, period, m int) int {
	t.Helper()
	k := tick.Near(period, m)
	off := size(k*period - m)
	if size((k-1)*period-m) < off || size((k+1)*period-m) <= off {
		t.Fatalf("Near(%d, %d) = %d", period, m, k)
	}
	return k
}

// P11.1: the nearest tick, the later one of two, also of times below 0.
func TestNear(t *testing.T) {
	for _, c := range [][3]int{{10, 24, 2}, {10, 25, 3}, {10, 26, 3}, {10, 20, 2}, {10, 15, 2}, {10, 14, 1}, {10, 5, 1}, {10, 4, 0}, {10, 0, 0}, {10, -4, 0}, {10, -5, 0}, {10, -6, -1}, {10, -10, -1}, {10, -15, -1}, {10, -16, -2}, {1, 7, 7}, {1, -7, -7}, {3, 1, 0}, {3, 2, 1}, {3, -1, 0}, {3, -2, -1}, {7, 3, 0}, {7, 4, 1}, {2, 1, 1}, {2, -1, 0}} {
		if got := tick.Near(c[0], c[1]); got != c[2] {
			t.Errorf("Near(%d, %d) = %d", c[0], c[1], got)
		}
	}
	for period := 1; period <= 12; period++ {
		for m := -60; m <= 60; m++ {
			checkNear(t, period, m)
		}
	}
	rnd := rand.New(rand.NewSource(1))
	for range 3000 {
		checkNear(t, 1+rnd.Intn(1_000_000), rnd.Intn(2*far+1)-far)
		checkNear(t, 1+rnd.Intn(100), rnd.Intn(2*far+1)-far)
	}
	for _, period := range []int{1, 2, 3, 999_999, 1_000_000} {
		for _, m := range []int{far, -far, far - 1, 1 - far, 500_000, 499_999, -500_000, -500_001} {
			checkNear(t, period, m)
		}
	}
}

// P11.1: the example.
func TestExample(t *testing.T) {
	if k, is := tick.Place(setting(10, 40), 21, 28); !is || k != 2 {
		t.Error(k, is)
	}
}

// P11.1: just twice Bound apart tells a tick, one more does not.
func TestBound(t *testing.T) {
	for _, bound := range []int{0, 1, 40, 1_000_000_000} {
		for _, lo := range []int{0, 1, -1, 77, -far, far - 2*bound - 1} {
			if _, is := tick.Place(setting(10, bound), lo, lo+2*bound); !is {
				t.Error(bound, lo)
			}
			if k, is := tick.Place(setting(10, bound), lo, lo+2*bound+1); is || k != 0 {
				t.Error(bound, lo, k)
			}
			if bound > 0 {
				if _, is := tick.Place(setting(10, bound), lo, lo+2*bound-1); !is {
					t.Error(bound, lo)
				}
			}
		}
	}
	if k, is := tick.Place(setting(10, 1_000_000_000), -far, far); is || k != 0 {
		t.Error(k, is)
	}
	if k, is := tick.Place(setting(10, 0), 25, 25); !is || k != 3 {
		t.Error(k, is)
	}
}

// P11.1: the middle is downwards, on both sides of 0.
func TestMiddle(t *testing.T) {
	for _, c := range []struct{ lo, hi, k int }{{24, 25, 2}, {25, 25, 3}, {25, 26, 3}, {24, 26, 3}, {-6, -5, -1}, {-5, -5, 0}, {-5, -4, 0}, {-6, -4, 0}, {-16, -15, -2}, {-1, 0, 0}, {0, 10, 1}, {0, 9, 0}, {-10, 0, 0}, {-11, 0, -1}} {
		if k, is := tick.Place(setting(10, 40), c.lo, c.hi); !is || k != c.k {
			t.Error(c, k, is)
		}
	}
}

// P11.1, P11.2: any times; the tick's time is off from any between by at most Bound and half a Period.
func TestPlace(t *testing.T) {
	rnd := rand.New(rand.NewSource(2))
	for range 5000 {
		period, bound := 1+rnd.Intn(40), rnd.Intn(60)
		if rnd.Intn(4) == 0 {
			period, bound = 1+rnd.Intn(1_000_000), rnd.Intn(1_000_000_001)
		}
		c := setting(period, bound)
		lo := rnd.Intn(2*far-4*bound-8) - far
		if rnd.Intn(2) == 0 {
			lo = rnd.Intn(4001) - 2000
		}
		hi := lo + rnd.Intn(3*bound+3)
		k, is := tick.Place(c, lo, hi)
		if is != (hi-lo <= 2*bound) || !is && k != 0 {
			t.Fatal(c, lo, hi, k, is)
		}
		if !is {
			continue
		}
		if k != tick.Near(period, half(lo+hi)) {
			t.Fatal(c, lo, hi, k)
		}
		for _, m := range []int{lo, hi} {
			if 2*size(k*period-m) > 2*bound+period {
				t.Fatal(c, lo, hi, k)
			}
		}
	}
}
