package seen_test

import (
	"math"
	"math/rand"
	"slices"
	"testing"

	"telltale/api"
	"telltale/seen"
)

func of(some ...int) api.Seen {
	if len(some) == 0 {
		return api.Seen{Top: -1}
	}
	return api.Seen{Top: some[len(some)-1], Some: some}
}

func alike(a, b api.Seen) bool { return a.Top == b.Top && slices.Equal(a.Some, b.Some) }

func windows() []int { return []int{1, 2, 3, 7, 64, 999, 1000} }

// plainly adds by a set of all that is known.
func plainly(s api.Seen, w, i int) (api.Seen, int) {
	if s.Top != -1 && i <= s.Top-w {
		return s, api.Old
	}
	if slices.Contains(s.Some, i) {
		return s, api.Dup
	}
	all := append(slices.Clone(s.Some), i)
	slices.Sort(all)
	out := api.Seen{Top: all[len(all)-1]}
	for _, x := range all {
		if x > out.Top-w {
			out.Some = append(out.Some, x)
		}
	}
	return out, api.Fresh
}

// check adds i, holds what comes of it against what is wanted, and tells it.
func check(t *testing.T, s api.Seen, w, i int) (api.Seen, int) {
	t.Helper()
	want, wantWhat := plainly(s, w, i)
	got, what := seen.Add(s, w, i)
	if !alike(got, want) || what != wantWhat {
		t.Fatalf("Add(%v, %d, %d) = %v, %d; want %v, %d", s, w, i, got, what, want, wantWhat)
	}
	if !seen.Right(got, w) {
		t.Fatalf("Add(%v, %d, %d) = %v is not right", s, w, i, got)
	}
	return got, what
}

// P7.1: the one that knows nothing.
func TestNone(t *testing.T) {
	s := seen.None()
	if s.Top != -1 || len(s.Some) != 0 {
		t.Error(s)
	}
	for _, w := range windows() {
		if !seen.Right(s, w) {
			t.Error(w)
		}
	}
}

// P7.1: what may be so, and what may not.
func TestRight(t *testing.T) {
	const far = 1 << 60
	for _, c := range []struct {
		s    api.Seen
		w    int
		want bool
	}{
		{of(0), 1, true},
		{of(5), 1, true},
		{of(far), 1, true},
		{of(far-999, far), 1000, true},
		{of(far-1000, far), 1000, false},
		{of(far + 1), 1, false},
		{of(4, 5), 1, false},
		{of(4, 5), 2, true},
		{of(3, 5), 2, false},
		{of(3, 5), 3, true},
		{of(0, 1, 2), 3, true},
		{of(0, 1, 2), 1000, true},
		{of(-1, 1, 2), 1000, false},
		{of(math.MinInt, 2), 1000, false},
		{of(5, 5), 9, false},
		{of(1, 3, 3), 9, false},
		{of(3, 2, 5), 9, false},
		{of(2, 1, 3), 9, false},
		{api.Seen{Top: 5}, 9, false},
		{api.Seen{Top: 0}, 9, false},
		{api.Seen{}, 9, false},
		{api.Seen{Top: 5, Some: []int{4}}, 9, false},
		{api.Seen{Top: 5, Some: []int{5, 6}}, 9, false},
		{api.Seen{Top: 5, Some: []int{5, 4}}, 9, false},
		{api.Seen{Top: 5, Some: []int{6}}, 9, false},
		{api.Seen{Top: -1, Some: []int{}}, 9, true},
		{api.Seen{Top: -1, Some: []int{-1}}, 9, false},
		{api.Seen{Top: -1, Some: []int{0}}, 9, false},
		{api.Seen{Top: -2}, 9, false},
		{api.Seen{Top: -2, Some: []int{-2}}, 9, false},
		{api.Seen{Top: math.MinInt}, 9, false},
		{api.Seen{Top: math.MinInt, Some: []int{math.MinInt}}, 9, false},
		{api.Seen{Top: math.MaxInt, Some: []int{math.MaxInt}}, 9, false},
	} {
		if got := seen.Right(c.s, c.w); got != c.want {
			t.Errorf("Right(%v, %d) = %v", c.s, c.w, got)
		}
	}
}

// P7.1: the example.
func TestExample(t *testing.T) {
	s := seen.None()
	for i, want := range []int{api.Fresh, api.Fresh, api.Dup} {
		var what int
		if s, what = seen.Add(s, 8, []int{5, 7, 5}[i]); what != want {
			t.Error(i, what)
		}
	}
	if !alike(s, of(5, 7)) {
		t.Error(s)
	}
}

// P7.1: right at the window's end, and beside it; what falls out of it when Top rises.
func TestWindowsEnd(t *testing.T) {
	for _, w := range windows() {
		for _, top := range []int{2000, 5000, 1<<59 + 7} {
			s := of(top)
			if got, what := check(t, s, w, top-w); what != api.Old || !alike(got, s) {
				t.Error(w, got, what)
			}
			if got, what := check(t, s, w, top-w-1); what != api.Old || !alike(got, s) {
				t.Error(w, got, what)
			}
			if w > 1 {
				if got, what := check(t, s, w, top-w+1); what != api.Fresh || !alike(got, of(top-w+1, top)) {
					t.Error(w, got, what)
				}
				if got, what := check(t, of(top-w+1, top), w, top+1); what != api.Fresh || !alike(got, of(top, top+1)) {
					t.Error(w, got, what)
				}
			}
			if got, what := check(t, s, w, top+w); what != api.Fresh || !alike(got, of(top+w)) {
				t.Error(w, got, what)
			}
			if got, what := check(t, s, w, top+w-1); w > 1 && (what != api.Fresh || !alike(got, of(top, top+w-1))) {
				t.Error(w, got, what)
			}
			check(t, s, w, top)
		}
		for _, i := range []int{0, 1, w, 1 << 60} {
			if got, what := check(t, seen.None(), w, i); what != api.Fresh || !alike(got, of(i)) {
				t.Error(w, i, got, what)
			}
		}
		check(t, of(0), w, 0)
		check(t, of(0), w, 1<<60)
		check(t, of(1<<60), w, 0)
		check(t, of(1<<60), w, 1<<60)
	}
}

// P7.1: an Old number that is also at the window's edge of a full row; Old goes ahead of Dup only below it.
func TestFullRow(t *testing.T) {
	s := seen.None()
	for i := range 40 {
		s, _ = check(t, s, 5, i)
	}
	if !alike(s, of(35, 36, 37, 38, 39)) {
		t.Fatal(s)
	}
	for i := range 60 {
		check(t, s, 5, i)
	}
}

// P7.1: rows of all kinds.
func TestRows(t *testing.T) {
	rnd := rand.New(rand.NewSource(1))
	for range 300 {
		w := 1 + rnd.Intn(20)
		if rnd.Intn(5) == 0 {
			w = 1000
		}
		s := seen.None()
		base := rnd.Intn(30)
		for range 60 {
			s, _ = check(t, s, w, base+rnd.Intn(3*w))
			base += rnd.Intn(3)
		}
	}
}

// P7.2: of a row of numbers each is Fresh at most once.
func TestOnce(t *testing.T) {
	rnd := rand.New(rand.NewSource(2))
	for range 200 {
		w := 1 + rnd.Intn(12)
		fresh := map[int]bool{}
		s := seen.None()
		for range 200 {
			i := rnd.Intn(60)
			var what int
			s, what = seen.Add(s, w, i)
			if what == api.Fresh {
				if fresh[i] {
					t.Fatal(w, i)
				}
				fresh[i] = true
			}
		}
	}
}

// P7.3: of numbers all above the greatest less w the order alters nothing of what is known in the end.
func TestAnyOrder(t *testing.T) {
	rnd := rand.New(rand.NewSource(3))
	for range 300 {
		w := 1 + rnd.Intn(30)
		top := rnd.Intn(100)
		row := []int{top}
		for range rnd.Intn(20) {
			row = append(row, max(0, top-w+1+rnd.Intn(w)))
		}
		want := slices.Compact(slices.Sorted(slices.Values(row)))
		for range 5 {
			rnd.Shuffle(len(row), func(i, k int) { row[i], row[k] = row[k], row[i] })
			s := seen.None()
			for _, i := range row {
				s, _ = seen.Add(s, w, i)
			}
			if !alike(s, of(want...)) {
				t.Fatal(w, row, s)
			}
		}
	}
}

// P3: what is handed in stays as it was, its spare room too, and what comes out is new memory.
func TestNewMemory(t *testing.T) {
	for _, i := range []int{1, 2, 3, 5, 6, 8, 9, 20} {
		all := []int{3, 5, 8, 77, 77, 77, 77}
		s := api.Seen{Top: 8, Some: all[:3]}
		want, _ := plainly(of(3, 5, 8), 7, i)
		one, _ := seen.Add(s, 7, i)
		two, _ := seen.Add(s, 7, i)
		if !slices.Equal(all, []int{3, 5, 8, 77, 77, 77, 77}) {
			t.Fatal(i, all)
		}
		whole := one.Some[:cap(one.Some)]
		for k := range whole {
			whole[k] = -9
		}
		if !slices.Equal(all, []int{3, 5, 8, 77, 77, 77, 77}) || !alike(two, want) {
			t.Fatal(i, all, two)
		}
	}
	s := seen.None()
	_, _ = seen.Add(s, 5, 9)
	if got := seen.None(); !alike(got, s) || got.Top != -1 {
		t.Error(got)
	}
}
