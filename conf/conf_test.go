package conf_test

import (
	"math"
	"math/rand"
	"slices"
	"testing"

	"telltale/api"
	"telltale/conf"
)

func usual() api.Conf {
	return api.Conf{Period: 10, Horizon: 4, Cap: 16, Min: 1, Max: 15, Rho: 100, Bound: 40, Window: 64, Stale: 3, Steps: [][]int{{10, 20}, {5}}}
}

// P5.1: each number's least and greatest, and those beside them.
func TestRightNumbers(t *testing.T) {
	fields := map[string]struct {
		put         func(c *api.Conf, n int)
		least, most int
	}{
		"Period":     {func(c *api.Conf, n int) { c.Period = n }, 1, 1_000_000},
		"Horizon":    {func(c *api.Conf, n int) { c.Horizon, c.Cap = n, 64 }, 1, 32},
		"Cap":        {func(c *api.Conf, n int) { c.Cap = n }, 5, 64},
		"Cap of 32":  {func(c *api.Conf, n int) { c.Horizon, c.Cap = 32, n }, 33, 64},
		"Cap of 1":   {func(c *api.Conf, n int) { c.Horizon, c.Cap = 1, n }, 2, 64},
		"Horizon 16": {func(c *api.Conf, n int) { c.Horizon = n }, 1, 15},
		"Min":        {func(c *api.Conf, n int) { c.Min = n }, 0, 15},
		"Max":        {func(c *api.Conf, n int) { c.Max = n }, 1, 1_000_000_000},
		"Max of 0":   {func(c *api.Conf, n int) { c.Min, c.Max = 0, n }, 0, 1_000_000_000},
		"Min of all": {func(c *api.Conf, n int) { c.Min, c.Max = n, 1_000_000_000 }, 0, 1_000_000_000},
		"Rho":        {func(c *api.Conf, n int) { c.Rho = n }, 0, 100_000},
		"Bound":      {func(c *api.Conf, n int) { c.Bound = n }, 0, 1_000_000_000},
		"Window":     {func(c *api.Conf, n int) { c.Window = n }, 1, 1000},
		"Stale":      {func(c *api.Conf, n int) { c.Stale = n }, 1, 1000},
		"a step":     {func(c *api.Conf, n int) { c.Steps = [][]int{{10, n}, {5}} }, 1, 1_000_000},
		"last step":  {func(c *api.Conf, n int) { c.Steps = [][]int{{1}, {5, 6, 7, n}} }, 1, 1_000_000},
	}
	for name, f := range fields {
		for _, n := range []int{f.least, f.most, f.least + 1, f.most - 1, f.least - 1, f.most + 1, math.MinInt, math.MaxInt, math.MaxInt - 1, -1 << 32, 1 << 32} {
			c := usual()
			f.put(&c, n)
			want := n >= f.least && n <= f.most
			if conf.Right(c) != want {
				t.Errorf("%s %d: %v", name, n, !want)
			}
		}
	}
	if !conf.Right(usual()) {
		t.Error("the usual one")
	}
	if conf.Right(api.Conf{}) {
		t.Error("a zero one")
	}
	both := usual()
	both.Min, both.Max = 1_000_000_001, 1_000_000_001
	if conf.Right(both) {
		t.Error("Min and Max too great")
	}
	equal := usual()
	equal.Horizon, equal.Cap = 7, 7
	if conf.Right(equal) {
		t.Error("Cap is Horizon")
	}
}

// row is so many steps.
func row(many int) []int { return slices.Repeat([]int{3}, many) }

// P5.1: one to four devices, each of one to four channels.
func TestRightRows(t *testing.T) {
	for many := range 8 {
		want := many >= 1 && many <= 4
		c := usual()
		c.Steps = nil
		for range many {
			c.Steps = append(c.Steps, row(4))
		}
		if conf.Right(c) != want {
			t.Error("devices", many)
		}
		for at := range 3 {
			c.Steps = [][]int{row(1), row(4), row(2)}
			c.Steps[at] = row(many)
			if conf.Right(c) != want {
				t.Error("channels", many, at)
			}
		}
	}
	c := usual()
	c.Steps = [][]int{{1}, nil}
	if conf.Right(c) {
		t.Error("a device with no channels")
	}
}

// P5.1: of rules nothing is asked.
func TestRightWhateverTheRules(t *testing.T) {
	c := usual()
	c.Rules = make([]api.Rule, 30)
	if !conf.Right(c) {
		t.Error("rules are not asked of here")
	}
	c.Rules = []api.Rule{{Hold: -1, Terms: []api.Term{{Op: 99, Ch: -5}}}}
	if !conf.Right(c) {
		t.Error("rules are not asked of here")
	}
}

// checkAll holds Many, Number and Of against a list of all channels.
func checkAll(t *testing.T, c api.Conf) {
	t.Helper()
	var all [][2]int
	for dev := range c.Steps {
		for ch := range c.Steps[dev] {
			all = append(all, [2]int{dev, ch})
		}
	}
	if got := conf.Many(c); got != len(all) {
		t.Fatal(c.Steps, got)
	}
	for number, one := range all {
		if got := conf.Number(c, one[0], one[1]); got != number {
			t.Fatal(c.Steps, one, got)
		}
		if dev, ch, is := conf.Of(c, number); !is || dev != one[0] || ch != one[1] {
			t.Fatal(c.Steps, number, dev, ch, is)
		}
	}
	for _, number := range []int{-1, -2, len(all), len(all) + 1, math.MinInt, math.MaxInt} {
		if dev, ch, is := conf.Of(c, number); is || dev != 0 || ch != 0 {
			t.Fatal(c.Steps, number, dev, ch, is)
		}
	}
	for dev := -2; dev < len(c.Steps)+3; dev++ {
		for ch := -2; ch < 9; ch++ {
			is := dev >= 0 && dev < len(c.Steps) && ch >= 0 && ch < len(c.Steps[dev])
			if got := conf.Number(c, dev, ch); (got == -1) == is || got < -1 {
				t.Fatal(c.Steps, dev, ch, got)
			}
		}
	}
	for _, far := range []int{math.MinInt, math.MaxInt} {
		if conf.Number(c, far, 0) != -1 || conf.Number(c, 0, far) != -1 || conf.Number(c, far, far) != -1 {
			t.Fatal(c.Steps, far)
		}
	}
}

// P5.1, P5.2: numbers and channels tell one another, of any steps, right or not.
func TestNumbers(t *testing.T) {
	c := usual()
	checkAll(t, c)
	if conf.Number(c, 0, 0) != 0 || conf.Number(c, 0, 1) != 1 || conf.Number(c, 1, 0) != 2 || conf.Many(c) != 3 {
		t.Error("the example")
	}
	for _, steps := range [][][]int{nil, {}, {nil}, {{}, {}}, {{}, {0}, {}, {-1, 9}}, {row(7), {}, row(1), row(6), row(2), row(3)}, {row(4), row(4), row(4), row(4)}} {
		c.Steps = steps
		checkAll(t, c)
	}
	rnd := rand.New(rand.NewSource(1))
	for range 300 {
		c.Steps = nil
		for range rnd.Intn(6) {
			c.Steps = append(c.Steps, row(rnd.Intn(6)))
		}
		checkAll(t, c)
	}
}

// P5.1: whether a setting is right does not matter to its channels' numbers.
func TestNumbersOfWrongSettings(t *testing.T) {
	c := api.Conf{Period: -1, Steps: [][]int{{1, 2}, {3}}}
	checkAll(t, c)
}

// P3: what is handed in stays as it was, and answers hang on it alone.
func TestKeepsNothing(t *testing.T) {
	c := usual()
	for range 2 {
		if !conf.Right(c) || conf.Many(c) != 3 || conf.Number(c, 1, 0) != 2 {
			t.Error("told otherwise")
		}
	}
	if len(c.Steps) != 2 || !slices.Equal(c.Steps[0], []int{10, 20}) || !slices.Equal(c.Steps[1], []int{5}) {
		t.Error(c.Steps)
	}
	c.Steps = [][]int{{1}}
	if conf.Many(c) != 1 || conf.Number(c, 1, 0) != -1 {
		t.Error("an earlier setting is kept")
	}
}
