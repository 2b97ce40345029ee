package quot_test

import (
	"math/big"
	"math/rand"
	"testing"

	"telltale/quot"
)

const (
	mostA = 1 << 60
	mostB = 1 << 40
	mostD = 1 << 41
)

// checkQuot holds both quotients against what says what they are.
func checkQuot(t *testing.T, a, b int) {
	t.Helper()
	rest := new(big.Int)
	floor, _ := new(big.Int).DivMod(big.NewInt(int64(a)), big.NewInt(int64(b)), rest)
	want := int(floor.Int64())
	if got := quot.Floor(a, b); got != want {
		t.Fatalf("Floor(%d, %d) = %d, not %d", a, b, got, want)
	}
	if rest.Sign() != 0 {
		want++
	}
	if got := quot.Ceil(a, b); got != want {
		t.Fatalf("Ceil(%d, %d) = %d, not %d", a, b, got, want)
	}
}

// checkDrift holds a drift against what says what it is.
func checkDrift(t *testing.T, rho, d int) {
	t.Helper()
	all := new(big.Int).Mul(big.NewInt(int64(rho)), new(big.Int).Abs(big.NewInt(int64(d))))
	all.Add(all, big.NewInt(999_999))
	want := int(all.Div(all, big.NewInt(1_000_000)).Int64())
	if got := quot.Drift(rho, d); got != want {
		t.Fatalf("Drift(%d, %d) = %d, not %d", rho, d, got, want)
	}
}

// P9.1: the example.
func TestExample(t *testing.T) {
	if quot.Floor(-7, 2) != -4 || quot.Ceil(-7, 2) != -3 || quot.Floor(7, 2) != 3 || quot.Ceil(7, 2) != 4 {
		t.Error(quot.Floor(-7, 2), quot.Ceil(-7, 2), quot.Floor(7, 2), quot.Ceil(7, 2))
	}
}

// P9.1: small numbers, all of them; the ends; others.
func TestQuotients(t *testing.T) {
	for a := -60; a <= 60; a++ {
		for b := 1; b <= 20; b++ {
			checkQuot(t, a, b)
		}
	}
	for _, b := range []int{1, 2, 3, 10, 1_000_000, 2_000_000, mostB - 1, mostB} {
		for _, a := range []int{0, 1, -1, mostA, -mostA, mostA - 1, 1 - mostA, b, -b, b + 1, b - 1, -b - 1, -b + 1, 5 * b, -5 * b} {
			checkQuot(t, a, b)
		}
	}
	rnd := rand.New(rand.NewSource(1))
	for range 3000 {
		checkQuot(t, rnd.Intn(2*mostA+1)-mostA, 1+rnd.Intn(mostB))
		checkQuot(t, rnd.Intn(2*mostA+1)-mostA, 1+rnd.Intn(2_000_000))
		checkQuot(t, rnd.Intn(20001)-10000, 1+rnd.Intn(100))
	}
}

// P9.1: no drift without time or rho, a part of one is one, its sign does not matter; the ends; others.
func TestDrift(t *testing.T) {
	for _, c := range [][3]int{{0, 0, 0}, {0, mostD, 0}, {1_000_000, 0, 0}, {1, 1, 1}, {1, -1, 1}, {1, 1_000_000, 1}, {1, 1_000_001, 2}, {1, -1_000_001, 2}, {100, 10_000, 1}, {100, 10_001, 2}, {1_000_000, 7, 7}, {1_000_000, -7, 7}, {1_000_000, mostD, mostD}, {1_000_000, -mostD, mostD}} {
		if got := quot.Drift(c[0], c[1]); got != c[2] {
			t.Error(c, got)
		}
	}
	for _, rho := range []int{0, 1, 2, 7, 100, 99_999, 100_000, 999_999, 1_000_000} {
		for _, d := range []int{0, 1, 2, 9_999, 10_000, 999_999, 1_000_000, 1_000_001, mostD - 1, mostD} {
			checkDrift(t, rho, d)
			checkDrift(t, rho, -d)
		}
	}
	rnd := rand.New(rand.NewSource(2))
	for range 3000 {
		checkDrift(t, rnd.Intn(1_000_001), rnd.Intn(2*mostD+1)-mostD)
		checkDrift(t, rnd.Intn(1000), rnd.Intn(2_000_001)-1_000_000)
	}
}

// P9.2: the drift of two times together is at most those of both, and never less than that of a lesser time.
func TestDriftTogether(t *testing.T) {
	rnd := rand.New(rand.NewSource(3))
	for range 5000 {
		rho, most := rnd.Intn(1_000_001), mostD/2
		if rnd.Intn(2) == 0 {
			rho, most = rnd.Intn(100), 100_000
		}
		a, b := rnd.Intn(2*most+1)-most, rnd.Intn(2*most+1)-most
		both, one, other := quot.Drift(rho, a+b), quot.Drift(rho, a), quot.Drift(rho, b)
		if both > one+other {
			t.Fatal(rho, a, b)
		}
		if max(a, -a) <= max(b, -b) && one > other {
			t.Fatal(rho, a, b)
		}
	}
}
