package skew_test

import (
	"math"
	"math/rand"
	"slices"
	"testing"

	"telltale/api"
	"telltale/skew"
)

func setting(period, least, most, rho int) api.Conf {
	return api.Conf{Period: period, Horizon: 4, Cap: 16, Min: least, Max: most, Rho: rho, Bound: 40, Window: 64, Stale: 3, Steps: [][]int{{10}}}
}

// drift is rho times d over a million, upwards.
func drift(rho, d int) int { return (rho*max(d, -d) + 999_999) / 1_000_000 }

// P10.1: what may be so, and what may not.
func TestRight(t *testing.T) {
	const far, wide = 1 << 41, 1 << 50
	for _, c := range []struct {
		e    api.Est
		want bool
	}{
		{api.Est{}, true},
		{api.Est{On: true}, true},
		{api.Est{On: true, At: far, Lo: -wide, Hi: wide}, true},
		{api.Est{On: true, At: 5, Lo: wide, Hi: wide}, true},
		{api.Est{On: true, At: 5, Lo: -wide, Hi: -wide}, true},
		{api.Est{On: true, At: 5, Lo: -4, Hi: 20}, true},
		{api.Est{On: true, At: 5, Lo: 20, Hi: 20}, true},
		{api.Est{On: true, At: 5, Lo: 21, Hi: 20}, false},
		{api.Est{On: true, At: -1}, false},
		{api.Est{On: true, At: far + 1}, false},
		{api.Est{On: true, Lo: -wide - 1}, false},
		{api.Est{On: true, Hi: wide + 1}, false},
		{api.Est{On: true, Lo: wide + 1, Hi: wide + 2}, false},
		{api.Est{On: true, Lo: -wide - 2, Hi: -wide - 1}, false},
		{api.Est{On: true, At: math.MinInt}, false},
		{api.Est{On: true, At: math.MaxInt}, false},
		{api.Est{On: true, Lo: math.MinInt, Hi: math.MaxInt}, false},
	} {
		if got := skew.Right(c.e); got != c.want {
			t.Errorf("Right(%v) = %v", c.e, got)
		}
	}
	// One that is not On is zero, whatever would be right of one that is.
	for _, e := range []api.Est{{At: -1}, {Lo: -wide - 1}, {Hi: wide + 1}, {Lo: 3, Hi: 2}, {At: far + 1}, {At: 1}, {Hi: 1}, {Lo: -1}, {At: 5, Lo: -4, Hi: 20}} {
		if skew.Right(e) {
			t.Errorf("Right(%v)", e)
		}
	}
}

// P10.1: the example, and what packets tell at the ends of all numbers.
func TestTold(t *testing.T) {
	if lo, hi := skew.Told(setting(10, 0, 15, 0), 100, 12); lo != -4 || hi != 20 {
		t.Error(lo, hi)
	}
	for _, period := range []int{1, 10, 1_000_000} {
		for _, delays := range [][2]int{{0, 0}, {0, 15}, {7, 7}, {3, 1_000_000_000}, {1_000_000_000, 1_000_000_000}} {
			c := setting(period, delays[0], delays[1], 0)
			for _, e := range []int{0, 1, 100, 1 << 40, 1 << 41} {
				for _, tick := range []int{0, 1, 2, 12, 1<<30 - 1, 1 << 30} {
					lo, hi := skew.Told(c, e, tick)
					if lo != tick*period-period+1-delays[1]-e || hi != tick*period-delays[0]-e {
						t.Error(c, e, tick, lo, hi)
					}
				}
			}
		}
	}
}

// checkLook holds Look against the chapter's words.
func checkLook(t *testing.T, c api.Conf, s api.Est, e, tick int) (api.Est, bool) {
	t.Helper()
	toldLo, toldHi := (tick-1)*c.Period+1-c.Max-e, tick*c.Period-c.Min-e
	want, wantIs := api.Est{On: true, At: e, Lo: toldLo, Hi: toldHi}, true
	if s.On {
		d := drift(c.Rho, e-s.At)
		lo, hi := max(s.Lo-d, toldLo), min(s.Hi+d, toldHi)
		if lo <= hi {
			want.Lo, want.Hi = lo, hi
		} else {
			wantIs = false
		}
	}
	got, is := skew.Look(c, s, e, tick)
	if got != want || is != wantIs {
		t.Fatalf("Look(%v, %v, %d, %d) = %v, %v; want %v, %v", c, s, e, tick, got, is, want, wantIs)
	}
	return got, is
}

// checkAt holds At against the chapter's words.
func checkAt(t *testing.T, c api.Conf, s api.Est, x int) {
	t.Helper()
	lo, hi, is := skew.At(c, s, x)
	d := drift(c.Rho, x-s.At)
	if !is || lo != x+s.Lo-d || hi != x+s.Hi+d {
		t.Fatalf("At(%v, %v, %d) = %d, %d, %v", c, s, x, lo, hi, is)
	}
}

// P10.1: a first packet tells all; a second one narrows, from either end, or both, or neither.
func TestLook(t *testing.T) {
	c := setting(10, 0, 15, 0)
	first, is := checkLook(t, c, api.Est{}, 100, 12)
	if !is || first != (api.Est{On: true, At: 100, Lo: -4, Hi: 20}) {
		t.Error(first, is)
	}
	for _, k := range []struct {
		s      api.Est
		lo, hi int
		is     bool
	}{
		{api.Est{On: true, At: 90, Lo: 0, Hi: 50}, 0, 20, true},
		{api.Est{On: true, At: 90, Lo: -50, Hi: 5}, -4, 5, true},
		{api.Est{On: true, At: 90, Lo: 1, Hi: 2}, 1, 2, true},
		{api.Est{On: true, At: 90, Lo: -50, Hi: 50}, -4, 20, true},
		{api.Est{On: true, At: 90, Lo: 20, Hi: 50}, 20, 20, true},
		{api.Est{On: true, At: 90, Lo: 21, Hi: 50}, -4, 20, false},
		{api.Est{On: true, At: 90, Lo: -50, Hi: -4}, -4, -4, true},
		{api.Est{On: true, At: 90, Lo: -50, Hi: -5}, -4, 20, false},
	} {
		got, is := checkLook(t, c, k.s, 100, 12)
		if is != k.is || got != (api.Est{On: true, At: 100, Lo: k.lo, Hi: k.hi}) {
			t.Error(k, got, is)
		}
	}
}

// P10.1: what was known widens by the drift, upwards, whether the time is later or earlier.
func TestDriftWidens(t *testing.T) {
	c := setting(1000, 0, 15, 100)
	s := api.Est{On: true, At: 500_000, Lo: 200, Hi: 300}
	for _, k := range []struct{ x, d int }{{500_000, 0}, {500_001, 1}, {499_999, 1}, {510_000, 1}, {490_000, 1}, {510_001, 2}, {489_999, 2}, {0, 50}, {1_500_000, 100}} {
		lo, hi, is := skew.At(c, s, k.x)
		if !is || lo != k.x+200-k.d || hi != k.x+300+k.d {
			t.Error(k, lo, hi, is)
		}
	}
	// At 600000 the drift is 10: an end that is just met, and one that is just missed.
	for _, k := range []struct {
		s  api.Est
		is bool
	}{
		{api.Est{On: true, At: 500_000, Lo: 410, Hi: 500}, true},
		{api.Est{On: true, At: 500_000, Lo: 411, Hi: 500}, false},
		{api.Est{On: true, At: 700_000, Lo: 410, Hi: 500}, true},
		{api.Est{On: true, At: 700_000, Lo: 411, Hi: 500}, false},
	} {
		e, tick := 600_000, 601
		_, hi := skew.Told(c, e, tick)
		k.s.Lo, k.s.Hi = k.s.Lo-400+hi, k.s.Hi-400+hi
		if _, is := checkLook(t, c, k.s, e, tick); is != k.is {
			t.Error(k)
		}
	}
}

// P10.1: of one that is not On nothing is known of any time.
func TestAtOfNothing(t *testing.T) {
	for _, x := range []int{0, 1, 100, 1 << 41} {
		if lo, hi, is := skew.At(setting(10, 0, 15, 100), api.Est{}, x); is || lo != 0 || hi != 0 {
			t.Error(x, lo, hi, is)
		}
	}
}

// P10.1: all kinds of estimates, times and ticks.
func TestLookAndAt(t *testing.T) {
	rnd := rand.New(rand.NewSource(1))
	for range 5000 {
		least := rnd.Intn(50)
		c := setting(1+rnd.Intn(100), least, least+rnd.Intn(50), rnd.Intn(100_001))
		s := api.Est{On: rnd.Intn(9) > 0}
		if s.On {
			s.At, s.Lo = rnd.Intn(3000), rnd.Intn(400)-200
			s.Hi = s.Lo + rnd.Intn(100)
		}
		if rnd.Intn(4) == 0 && s.On {
			s.At, s.Lo, s.Hi = rnd.Intn(1<<41+1), rnd.Intn(1<<50)-1<<50, rnd.Intn(1<<50+1)
		}
		e := rnd.Intn(3000)
		if rnd.Intn(5) == 0 {
			e = rnd.Intn(1<<41 + 1)
		}
		got, _ := checkLook(t, c, s, e, rnd.Intn(200))
		if !skew.Right(got) {
			t.Fatal(got)
		}
		x := rnd.Intn(3000)
		checkAt(t, c, got, x)
		if s.On {
			checkAt(t, c, s, x)
			checkAt(t, c, s, 1<<41-x)
		}
	}
}

// sent is a packet: when its last sample was taken by its device's clock, how the clocks differ then, and at which tick it came.
type sent struct{ e, differ, tick int }

// row is packets of a device whose clock drifts as it may, each late by what is promised.
func row(rnd *rand.Rand, c api.Conf) []sent {
	var out []sent
	e, differ := rnd.Intn(1000), 1000+c.Max+rnd.Intn(5000)
	for range 1 + rnd.Intn(30) {
		ahead := rnd.Intn(3000)
		if rnd.Intn(8) == 0 {
			ahead = rnd.Intn(3_000_000)
		}
		e += ahead
		most := c.Rho * ahead / 1_000_000
		switch rnd.Intn(3) {
		case 0:
			differ += most
		case 1:
			differ -= min(most, max(0, differ))
		default:
			differ += rnd.Intn(most + 1)
		}
		came := e + differ + c.Min + rnd.Intn(c.Max-c.Min+1)
		out = append(out, sent{e, differ, (came + c.Period - 1) / c.Period})
	}
	return out
}

// P10.2: the numbers are always within what the Est says, whatever the order, and Look never tells false.
func TestItHolds(t *testing.T) {
	rnd := rand.New(rand.NewSource(2))
	for range 400 {
		least := rnd.Intn(60)
		c := setting(1+rnd.Intn(100), least, least+rnd.Intn(60), rnd.Intn(3000))
		switch rnd.Intn(4) {
		case 0:
			c.Rho = 0
		case 1:
			c.Max = c.Min
		}
		all := row(rnd, c)
		for order := range 3 {
			if order > 0 {
				rnd.Shuffle(len(all), func(i, k int) { all[i], all[k] = all[k], all[i] })
			}
			s := api.Est{}
			for _, p := range all {
				var is bool
				if s, is = skew.Look(c, s, p.e, p.tick); !is {
					t.Fatal(c, all, p)
				}
				for _, q := range all {
					lo, hi, is := skew.At(c, s, q.e)
					if !is || q.e+q.differ < lo || q.e+q.differ > hi {
						t.Fatal(c, s, q, lo, hi, is)
					}
				}
			}
		}
	}
}

// P10.2: at both ends of what is promised: the least and the greatest delay, just at a tick, and just behind one.
func TestItHoldsAtTheEnds(t *testing.T) {
	c := setting(10, 3, 18, 0)
	for came := 100; came <= 120; came++ {
		for _, delay := range []int{3, 18} {
			e := 40
			differ := came - delay - e
			s, _ := skew.Look(c, api.Est{}, e, (came+9)/10)
			if differ < s.Lo || differ > s.Hi {
				t.Error(came, delay, s)
			}
			if came%10 == 0 && delay == 3 && differ != s.Hi || came%10 == 1 && delay == 18 && differ != s.Lo {
				t.Error(came, delay, s)
			}
		}
	}
}

// P3: what is handed in stays as it was.
func TestKeepsNothing(t *testing.T) {
	c := setting(10, 0, 15, 100)
	s := api.Est{On: true, At: 90, Lo: 0, Hi: 50}
	one, _ := skew.Look(c, s, 100, 12)
	skew.Look(c, api.Est{On: true, At: 5, Lo: 6, Hi: 7}, 8, 9)
	if two, _ := skew.Look(c, s, 100, 12); one != two || s != (api.Est{On: true, At: 90, Lo: 0, Hi: 50}) {
		t.Error(one, two, s)
	}
	if len(c.Steps) != 1 || !slices.Equal(c.Steps[0], []int{10}) {
		t.Error(c.Steps)
	}
}
