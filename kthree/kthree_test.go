package kthree_test

import (
	"math"
	"math/rand"
	"slices"
	"testing"

	"telltale/api"
	"telltale/kthree"
)

const (
	no   = api.False
	yes  = api.True
	open = api.Unknown
)

func truths() []int { return []int{no, yes, open} }

// numbers is truths, and numbers that count as Unknown.
func numbers() []int {
	return []int{no, yes, open, 0, -1, 4, 5, -2, 1 << 32, 1<<32 + 1, 1<<32 + 2, 257, 258, math.MinInt, math.MaxInt}
}

// truth is what a number counts as.
func truth(n int) int {
	if n == no || n == yes {
		return n
	}
	return open
}

// P17.1: the tables, and the example, Unknown and False.
func TestTables(t *testing.T) {
	for _, c := range []struct{ a, b, and, or int }{
		{no, no, no, no}, {no, yes, no, yes}, {no, open, no, open},
		{yes, no, no, yes}, {yes, yes, yes, yes}, {yes, open, open, yes},
		{open, no, no, open}, {open, yes, open, yes}, {open, open, open, open},
	} {
		if got := kthree.And(c.a, c.b); got != c.and {
			t.Errorf("And(%d, %d) = %d", c.a, c.b, got)
		}
		if got := kthree.Or(c.a, c.b); got != c.or {
			t.Errorf("Or(%d, %d) = %d", c.a, c.b, got)
		}
	}
	if kthree.Not(no) != yes || kthree.Not(yes) != no || kthree.Not(open) != open {
		t.Error(kthree.Not(no), kthree.Not(yes), kthree.Not(open))
	}
	if kthree.Of(true) != yes || kthree.Of(false) != no {
		t.Error(kthree.Of(true), kthree.Of(false))
	}
}

// P17.1: any other number counts as Unknown.
func TestOtherNumbers(t *testing.T) {
	for _, a := range numbers() {
		if got := kthree.Not(a); got != kthree.Not(truth(a)) {
			t.Errorf("Not(%d) = %d", a, got)
		}
		for _, b := range numbers() {
			if got := kthree.And(a, b); got != kthree.And(truth(a), truth(b)) {
				t.Errorf("And(%d, %d) = %d", a, b, got)
			}
			if got := kthree.Or(a, b); got != kthree.Or(truth(a), truth(b)) {
				t.Errorf("Or(%d, %d) = %d", a, b, got)
			}
		}
		if got := kthree.All([]int{a}); got != truth(a) {
			t.Errorf("All of %d: %d", a, got)
		}
		if got := kthree.Any([]int{a}); got != truth(a) {
			t.Errorf("Any of %d: %d", a, got)
		}
	}
	if got := kthree.And(7, no); got != no {
		t.Error(got)
	}
	if got := kthree.Or(0, yes); got != yes {
		t.Error(got)
	}
}

// P17.2: And and Or go in any order, and together, and share; Not turns one into the other.
func TestLaws(t *testing.T) {
	and, or, not := kthree.And, kthree.Or, kthree.Not
	for _, a := range truths() {
		if not(not(a)) != a || and(a, a) != a || or(a, a) != a || and(a, yes) != a || or(a, no) != a {
			t.Error(a)
		}
		for _, b := range truths() {
			if and(a, b) != and(b, a) || or(a, b) != or(b, a) || not(and(a, b)) != or(not(a), not(b)) || not(or(a, b)) != and(not(a), not(b)) {
				t.Error(a, b)
			}
			for _, c := range truths() {
				if and(and(a, b), c) != and(a, and(b, c)) || or(or(a, b), c) != or(a, or(b, c)) {
					t.Error(a, b, c)
				}
				if and(a, or(b, c)) != or(and(a, b), and(a, c)) || or(a, and(b, c)) != and(or(a, b), or(a, c)) {
					t.Error(a, b, c)
				}
			}
		}
	}
}

// P17.3: what is known, with something Unknown in it, is so whatever that is.
func TestKnown(t *testing.T) {
	for _, a := range truths() {
		for name, f := range map[string]func(int, int) int{"And": kthree.And, "Or": kthree.Or} {
			if got := f(a, open); got != open && (f(a, yes) != got || f(a, no) != got) {
				t.Error(name, a, got)
			}
			if got := f(a, open); got == open && f(a, yes) == f(a, no) && f(a, yes) != open {
				t.Error(name, a, got)
			}
		}
	}
}

// P17.1, P17.3: folds of rows: of none, of all kinds.
func TestFolds(t *testing.T) {
	if kthree.All(nil) != yes || kthree.Any(nil) != no || kthree.All([]int{}) != yes || kthree.Any([]int{}) != no {
		t.Error(kthree.All(nil), kthree.Any(nil))
	}
	rnd := rand.New(rand.NewSource(1))
	for range 2000 {
		row := make([]int, rnd.Intn(6), 9)
		all, some := yes, no
		for i := range row {
			row[i] = numbers()[rnd.Intn(len(numbers()))]
			if rnd.Intn(3) > 0 {
				row[i] = truths()[rnd.Intn(3)]
			}
			all, some = kthree.And(all, row[i]), kthree.Or(some, row[i])
		}
		before := slices.Clone(row)
		if got := kthree.All(row); got != all {
			t.Fatal(row, got, all)
		}
		if got := kthree.Any(row); got != some {
			t.Fatal(row, got, some)
		}
		if !slices.Equal(row, before) || !slices.Equal(row[:9][len(row):], make([]int, 9-len(row))) {
			t.Fatal(row, before)
		}
		if slices.Contains(row, no) != (all == no) || slices.Contains(row, yes) != (some == yes) {
			t.Fatal(row, all, some)
		}
	}
}
