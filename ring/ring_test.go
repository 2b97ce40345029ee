package ring_test

import (
	"math"
	"math/rand"
	"testing"

	"telltale/api"
	"telltale/ring"
)

// plain is a ring as the chapter tells it: things by their places.
type plain struct {
	room, from int
	things     map[int]int
}

func (p *plain) put(at, x int) int {
	if at < p.from {
		return api.Late
	}
	if at > p.from+p.room-1 {
		return api.Over
	}
	if _, has := p.things[at]; has {
		return api.Taken
	}
	p.things[at] = x
	return api.Placed
}

func (p *plain) take() (int, bool) {
	x, has := p.things[p.from]
	delete(p.things, p.from)
	p.from++
	return x, has
}

// same holds all places of a ring, and those beside them, against what is wanted.
func same(t *testing.T, r *ring.Ring[int], p *plain) {
	t.Helper()
	if r.From() != p.from {
		t.Fatal(r.From(), p.from)
	}
	for at := p.from - p.room - 2; at < p.from+2*p.room+2; at++ {
		want, wantHas := p.things[at]
		if x, has := r.At(at); x != want || has != wantHas {
			t.Fatalf("At(%d) = %d, %v; want %d, %v", at, x, has, want, wantHas)
		}
	}
}

// P12.1: the example, and the ends of a ring.
func TestEnds(t *testing.T) {
	r := ring.New[int](2, 5)
	for _, c := range []struct{ at, want int }{{7, api.Over}, {4, api.Late}, {8, api.Over}, {0, api.Late}, {-1, api.Late}, {math.MinInt, api.Late}, {1 << 60, api.Over}, {6, api.Placed}, {6, api.Taken}, {5, api.Placed}, {5, api.Taken}, {7, api.Over}} {
		if got := r.Put(c.at, c.at*10); got != c.want {
			t.Error(c, got)
		}
	}
	if x, has := r.At(6); !has || x != 60 {
		t.Error(x, has)
	}
	for _, at := range []int{4, 7, -1, 3, 8, 1 << 60, math.MinInt} {
		if x, has := r.At(at); has || x != 0 {
			t.Error(at, x, has)
		}
	}
}

// P12.1: of what is Taken the first thing stays, also if it is a zero one.
func TestFirstStays(t *testing.T) {
	r := ring.New[string](3, 0)
	if r.Put(1, "") != api.Placed || r.Put(1, "b") != api.Taken {
		t.Error("a zero thing is a thing")
	}
	if x, has := r.At(1); !has || x != "" {
		t.Error(x, has)
	}
	if x, has := r.Take(); has || x != "" {
		t.Error(x, has)
	}
	if x, has := r.Take(); !has || x != "" {
		t.Error(x, has)
	}
}

// P12.1: Take goes on by one place, empty or not; the new last place is empty.
func TestTake(t *testing.T) {
	r := ring.New[int](3, 10)
	r.Put(10, 1)
	r.Put(12, 3)
	if x, has := r.Take(); !has || x != 1 || r.From() != 11 {
		t.Error(x, has, r.From())
	}
	if x, has := r.At(13); has || x != 0 {
		t.Error(x, has)
	}
	if got := r.Put(10, 9); got != api.Late {
		t.Error(got)
	}
	if got := r.Put(13, 4); got != api.Placed {
		t.Error(got)
	}
	if got := r.Put(14, 4); got != api.Over {
		t.Error(got)
	}
	if x, has := r.Take(); has || x != 0 || r.From() != 12 {
		t.Error(x, has, r.From())
	}
	if x, has := r.Take(); !has || x != 3 {
		t.Error(x, has)
	}
	if x, has := r.Take(); !has || x != 4 {
		t.Error(x, has)
	}
	for range 7 {
		if x, has := r.Take(); has || x != 0 {
			t.Error(x, has)
		}
	}
	if r.From() != 21 {
		t.Error(r.From())
	}
}

// P12.1: the least room, and the greatest numbers.
func TestFarRings(t *testing.T) {
	for _, room := range []int{1, 2, 999, 1000} {
		for _, from := range []int{0, 1, 1<<60 - 2000, 1<<60 - room} {
			r := ring.New[int](room, from)
			p := &plain{room, from, map[int]int{}}
			same(t, r, p)
			for _, at := range []int{from - 1, from, from + room - 1, from + room, from} {
				if got, want := r.Put(at, at+7), p.put(at, at+7); got != want {
					t.Fatal(room, from, at, got, want)
				}
			}
			same(t, r, p)
		}
	}
	r := ring.New[int](1, 1<<60)
	if r.Put(1<<60, 5) != api.Placed || r.Put(1<<60, 5) != api.Taken || r.From() != 1<<60 {
		t.Error("the greatest number")
	}
}

// P12.1, P12.2: whatever is done, a ring is as the chapter tells it: what is placed is taken once.
func TestWhateverIsDone(t *testing.T) {
	rnd := rand.New(rand.NewSource(1))
	for range 300 {
		room, from := 1+rnd.Intn(9), rnd.Intn(30)
		r := ring.New[int](room, from)
		p := &plain{room, from, map[int]int{}}
		placed, taken := map[int]int{}, map[int]int{}
		for i := range 120 {
			if rnd.Intn(3) == 0 {
				at := p.from
				want, wantHas := p.take()
				x, has := r.Take()
				if x != want || has != wantHas {
					t.Fatal(x, has, want, wantHas)
				}
				if has {
					if placed[x] != at {
						t.Fatal("placed elsewhere", x, at)
					}
					taken[x]++
				}
			} else {
				at := p.from - 2 + rnd.Intn(room+4)
				x := 1000 + i
				got, want := r.Put(at, x), p.put(at, x)
				if got != want {
					t.Fatal(at, got, want)
				}
				if got == api.Placed {
					placed[x] = at
				}
			}
			same(t, r, p)
		}
		for range room {
			if x, has := r.Take(); has {
				taken[x]++
			}
		}
		for x := range placed {
			if taken[x] != 1 {
				t.Fatal("taken not once", x, taken[x])
			}
		}
		if len(taken) != len(placed) {
			t.Fatal(taken, placed)
		}
	}
}

// P12.1: rings don't share, and have things of any type.
func TestApart(t *testing.T) {
	one, two := ring.New[api.Sample](4, 0), ring.New[api.Sample](4, 0)
	one.Put(2, api.Sample{V: 5, From: 6})
	if x, has := two.At(2); has || x != (api.Sample{}) {
		t.Error(x, has)
	}
	if two.Take(); one.From() != 0 || two.From() != 1 {
		t.Error(one.From(), two.From())
	}
	if x, has := one.At(2); !has || x != (api.Sample{V: 5, From: 6}) {
		t.Error(x, has)
	}
	if x, has := one.At(2); !has || x != (api.Sample{V: 5, From: 6}) {
		t.Error("asking takes nothing", x, has)
	}
	lists := ring.New[[]int](2, 0)
	lists.Put(0, []int{1, 2})
	if x, has := lists.Take(); !has || len(x) != 2 {
		t.Error(x, has)
	}
}
