package track_test

import (
	"math"
	"math/rand"
	"slices"
	"testing"

	"telltale/api"
	"telltale/track"
)

func alike(a, b api.Track) bool {
	return a.On == b.On && a.Boot == b.Boot && a.Seen.Top == b.Seen.Top && slices.Equal(a.Seen.Some, b.Seen.Some)
}

// on is a track with that boot, of which these packets are known.
func on(boot int, some ...int) api.Track {
	return api.Track{On: true, Boot: boot, Seen: api.Seen{Top: some[len(some)-1], Some: some}}
}

// near is the number from half a round below top to just less than half a round above it.
func near(top, seq int) int {
	i := top - 32768
	for i < 0 || i%65536 != seq {
		i++
	}
	if i > top+32767 {
		return -1
	}
	return i
}

func plainIndex(t api.Track, boot, seq int) (int, int) {
	if !t.On {
		return 1, seq
	}
	if boot == t.Boot {
		return 0, near(t.Seen.Top, seq)
	}
	if boot == t.Boot+1 || t.Boot == 255 && boot == 0 {
		return 1, seq
	}
	return 2, seq
}

func plainAdd(s api.Seen, w, i int) (api.Seen, int) {
	if i <= s.Top-w {
		return s, api.Old
	}
	if slices.Contains(s.Some, i) {
		return s, api.Dup
	}
	all := append(slices.Clone(s.Some), i)
	slices.Sort(all)
	out := api.Seen{Top: all[len(all)-1]}
	for _, x := range all {
		if x > out.Top-w {
			out.Some = append(out.Some, x)
		}
	}
	return out, api.Fresh
}

func plainOffer(t api.Track, w, boot, seq int) (api.Track, int, int) {
	kin, i := plainIndex(t, boot, seq)
	switch {
	case kin == 2:
		return t, 0, api.Stray
	case kin == 0 && i == -1:
		return t, 0, api.Old
	case kin == 0:
		s, what := plainAdd(t.Seen, w, i)
		return api.Track{On: true, Boot: t.Boot, Seen: s}, i, what
	case t.On:
		return on(boot, i), i, api.Again
	}
	return on(boot, i), i, api.Fresh
}

// check holds Index and Offer against what is wanted, and tells the track, the number and what becomes of it.
func check(t *testing.T, tr api.Track, w, boot, seq int) (api.Track, int, int) {
	t.Helper()
	kin, i := track.Index(tr, boot, seq)
	if wantKin, want := plainIndex(tr, boot, seq); kin != wantKin || i != want {
		t.Fatalf("Index(%v, %d, %d) = %d, %d; want %d, %d", tr, boot, seq, kin, i, wantKin, want)
	}
	got, n, what := track.Offer(tr, w, boot, seq)
	want, wantN, wantWhat := plainOffer(tr, w, boot, seq)
	if !alike(got, want) || n != wantN || what != wantWhat {
		t.Fatalf("Offer(%v, %d, %d, %d) = %v, %d, %d; want %v, %d, %d", tr, w, boot, seq, got, n, what, want, wantN, wantWhat)
	}
	if !track.Right(got, w) {
		t.Fatalf("Offer(%v, %d, %d, %d) = %v is not right", tr, w, boot, seq, got)
	}
	return got, n, what
}

// P8.1: the track of which nothing came.
func TestNone(t *testing.T) {
	none := track.None()
	if none.On || none.Boot != 0 || none.Seen.Top != -1 || len(none.Seen.Some) != 0 || !track.Right(none, 1) || !track.Right(none, 1000) {
		t.Error(none)
	}
}

// P8.1: what may be so, and what may not.
func TestRight(t *testing.T) {
	withBoot := func(tr api.Track, boot int) api.Track { tr.Boot = boot; return tr }
	withOn := func(tr api.Track, is bool) api.Track { tr.On = is; return tr }
	for _, c := range []struct {
		tr   api.Track
		w    int
		want bool
	}{
		{on(0, 5), 1, true},
		{on(255, 5), 1, true},
		{on(256, 5), 1, false},
		{on(-1, 5), 1, false},
		{on(math.MinInt, 5), 1, false},
		{on(math.MaxInt, 5), 1, false},
		{on(7, 0), 1, true},
		{on(7, 4, 5), 1, false},
		{on(7, 4, 5), 2, true},
		{on(7, 5, 5), 9, false},
		{on(7, 9, 5), 9, false},
		{on(7, -1), 9, false},
		{on(7, 1<<60), 9, true},
		{on(7, 1<<60+1), 9, false},
		{withOn(on(7, 5), false), 9, false},
		{withOn(on(0, 5), false), 9, false},
		{withOn(track.None(), true), 9, false},
		{withBoot(track.None(), 1), 9, false},
		{withBoot(track.None(), -1), 9, false},
		{withBoot(track.None(), 255), 9, false},
		{withOn(withBoot(track.None(), 1), true), 9, false},
		{api.Track{}, 9, false},
		{api.Track{On: true}, 9, false},
		{api.Track{On: true, Seen: api.Seen{Top: 3}}, 9, false},
		{api.Track{Seen: api.Seen{Top: -1, Some: []int{1}}}, 9, false},
		{api.Track{Seen: api.Seen{Top: -2}}, 9, false},
	} {
		if got := track.Right(c.tr, c.w); got != c.want {
			t.Errorf("Right(%v, %d) = %v", c.tr, c.w, got)
		}
	}
}

// P8.1: the example, and first packets of all boots.
func TestFirst(t *testing.T) {
	got, i, what := check(t, track.None(), 8, 3, 9)
	if i != 9 || what != api.Fresh || !alike(got, on(3, 9)) {
		t.Error(got, i, what)
	}
	for _, boot := range []int{0, 1, 128, 254, 255} {
		for _, seq := range []int{0, 1, 32767, 32768, 65535} {
			check(t, track.None(), 1, boot, seq)
			check(t, track.None(), 1000, boot, seq)
		}
	}
}

// P8.1: a packet of the next beginning, of one further on, and of one that was.
func TestBeginnings(t *testing.T) {
	for _, tr := range []api.Track{on(0, 3, 5), on(1, 5), on(254, 70000), on(255, 5, 9)} {
		for boot := range 256 {
			got, i, what := check(t, tr, 10, boot, 7)
			switch boot {
			case tr.Boot:
			case (tr.Boot + 1) % 256:
				if what != api.Again || i != 7 || !alike(got, on(boot, 7)) {
					t.Error(tr, boot, got, i, what)
				}
			default:
				if what != api.Stray || i != 0 || !alike(got, tr) {
					t.Error(tr, boot, got, i, what)
				}
			}
		}
	}
}

// P8.1: Dup, Old by the window, Old by numbers below 0, and rounds.
func TestSameBeginning(t *testing.T) {
	tr := on(4, 98, 100)
	for _, c := range []struct{ seq, n, what int }{
		{100, 100, api.Dup}, {98, 98, api.Dup}, {99, 99, api.Fresh}, {97, 97, api.Fresh}, {91, 91, api.Fresh},
		{90, 90, api.Old}, {0, 0, api.Old}, {101, 101, api.Fresh}, {32867, 32867, api.Fresh}, {32868, 0, api.Old}, {65535, 0, api.Old},
	} {
		_, n, what := check(t, tr, 10, 4, c.seq)
		if n != c.n || what != c.what {
			t.Error(c, n, what)
		}
	}
	tr = on(4, 65535)
	if got, n, what := check(t, tr, 10, 4, 0); n != 65536 || what != api.Fresh || !alike(got, on(4, 65535, 65536)) {
		t.Error(got, n, what)
	}
	if _, n, what := check(t, on(4, 65536), 10, 4, 65535); n != 65535 || what != api.Fresh {
		t.Error(n, what)
	}
	for _, top := range []int{1 << 59, 1<<59 - 1} {
		for _, d := range []int{-32768, -10, -9, -1, 0, 1, 9, 32767} {
			if kin, i := track.Index(on(4, top), 4, (top+d)%65536); kin != 0 || i != top+d {
				t.Error(top, d, kin, i)
			}
			got, n, what := track.Offer(on(4, top), 10, 4, (top+d)%65536)
			want, wantWhat := plainAdd(on(4, top).Seen, 10, top+d)
			if n != top+d || what != wantWhat || !alike(got, api.Track{On: true, Boot: 4, Seen: want}) {
				t.Error(top, d, got, n, what)
			}
		}
	}
}

// P8.1: rows of all kinds.
func TestRows(t *testing.T) {
	rnd := rand.New(rand.NewSource(1))
	for range 200 {
		w := 1 + rnd.Intn(30)
		tr := track.None()
		boot, seq := rnd.Intn(256), rnd.Intn(65536)
		for range 60 {
			switch rnd.Intn(12) {
			case 0:
				boot = (boot + 1) % 256
			case 1:
				boot = rnd.Intn(256)
			case 2:
				seq = rnd.Intn(65536)
			}
			seq = (seq + rnd.Intn(5)) % 65536
			tr, _, _ = check(t, tr, w, boot, (seq+65536-rnd.Intn(2*w))%65536)
		}
	}
}

// P8.2: between two beginnings no packet is Fresh twice.
func TestOnce(t *testing.T) {
	rnd := rand.New(rand.NewSource(2))
	for range 100 {
		w := 1 + rnd.Intn(30)
		tr := track.None()
		fresh := map[int]bool{}
		boot := 0
		for range 300 {
			if rnd.Intn(40) == 0 {
				boot++
			}
			var i, what int
			tr, i, what = track.Offer(tr, w, (boot+256-rnd.Intn(2))%256, rnd.Intn(50))
			if what == api.Again {
				clear(fresh)
			}
			if what == api.Fresh || what == api.Again {
				if fresh[i] {
					t.Fatal(w, i)
				}
				fresh[i] = true
			}
		}
	}
}

// P8.3: numbers near the greatest come out as they were, whatever the order.
func TestSteady(t *testing.T) {
	rnd := rand.New(rand.NewSource(3))
	for range 50 {
		const w = 1000
		top := rnd.Intn(65536)
		tr, first, _ := track.Offer(track.None(), w, 9, top)
		if first != top {
			t.Fatal(first, top)
		}
		for range 300 {
			i := max(0, top-rnd.Intn(w)+rnd.Intn(w))
			if rnd.Intn(20) == 0 {
				i = top + rnd.Intn(32768)
			}
			var n, what int
			tr, n, what = track.Offer(tr, w, 9, i%65536)
			if n != i || what != api.Fresh && what != api.Dup {
				t.Fatal(top, i, n, what)
			}
			top = max(top, i)
			if tr.Seen.Top != top {
				t.Fatal(top, tr.Seen.Top)
			}
		}
	}
}

// P3: what is handed in stays as it was, its spare room too.
func TestKeepsNothing(t *testing.T) {
	for _, boot := range []int{3, 4, 5, 6} {
		for _, seq := range []int{1, 2, 3, 5, 6, 8, 9, 20, 65535} {
			all := []int{3, 5, 8, 77, 77, 77}
			tr := api.Track{On: true, Boot: 4, Seen: api.Seen{Top: 8, Some: all[:3]}}
			one, n, what := track.Offer(tr, 7, boot, seq)
			track.Index(tr, boot, seq)
			if !slices.Equal(all, []int{3, 5, 8, 77, 77, 77}) || !alike(tr, on(4, 3, 5, 8)) {
				t.Fatal(boot, seq, all)
			}
			two, m, other := track.Offer(tr, 7, boot, seq)
			if !alike(one, two) || n != m || what != other {
				t.Fatal(boot, seq, one, two)
			}
		}
	}
	if none := track.None(); none.On || none.Seen.Top != -1 {
		t.Error(none)
	}
}
