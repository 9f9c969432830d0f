package budget_test

import (
	"math"
	"math/rand"
	"slices"
	"testing"

	"capnp/api"
	"capnp/budget"
)

// maxCost is the largest cost for which Charge is specified.
const maxCost = 1<<40 - 1

// edges are integers next to the limits of their types.
var edges = []int{
	math.MinInt, math.MinInt + 1, math.MinInt32 - 1, math.MinInt32, -1 << 20, -2, -1,
	0, 1, 2, 3, 63, 64, 255, 256, math.MaxUint16, math.MaxUint16 + 1, math.MaxInt32, math.MaxInt32 + 1,
	math.MaxUint32, math.MaxUint32 + 1, maxCost - 1, maxCost, maxCost + 1, math.MaxInt - 1, math.MaxInt,
}

// costs are the edges for which Charge is specified.
func costs() []int {
	return slices.DeleteFunc(slices.Clone(edges), func(n int) bool { return n < 0 || n > maxCost })
}

// P9.1: the budget is Limits.Words, or 0 if that is negative.

func TestStart(t *testing.T) {
	for _, c := range []struct{ words, want int }{
		{5, 5}, {1, 1}, {0, 0}, {-1, 0}, {-5, 0}, {math.MinInt, 0}, {math.MinInt32, 0},
		{math.MaxInt32 + 1, math.MaxInt32 + 1}, {maxCost + 1, maxCost + 1}, {math.MaxInt, math.MaxInt},
	} {
		if m := budget.Start(api.Limits{Words: c.words}); m != (api.Meter{Words: c.want}) {
			t.Errorf("Start with the budget %d returned %+v", c.words, m)
		}
	}
}

func TestStartIgnoresOtherLimits(t *testing.T) {
	for _, depth := range edges {
		for _, out := range edges {
			if m := budget.Start(api.Limits{Depth: depth, Words: 7, Out: out}); m.Words != 7 {
				t.Errorf("Start with the depth %d and the output limit %d returned %+v", depth, out, m)
			}
			if m := budget.Start(api.Limits{Depth: depth, Words: -7, Out: out}); m.Words != 0 {
				t.Errorf("Start with the depth %d, the output limit %d and a negative budget returned %+v", depth, out, m)
			}
		}
	}
}

// P9.1: an object may be entered if its depth is at most Limits.Depth.

func TestEnter(t *testing.T) {
	for _, c := range []struct {
		limit, depth int
		want         api.Errno
	}{
		{1, 1, api.OK}, {1, 2, api.ErrDepth}, {0, 1, api.ErrDepth}, {0, 0, api.OK}, {3, 1, api.OK}, {3, 3, api.OK},
		{3, 4, api.ErrDepth}, {-1, 1, api.ErrDepth}, {-1, 0, api.ErrDepth}, {-1, -1, api.OK}, {64, 64, api.OK},
		{64, 65, api.ErrDepth}, {math.MinInt, math.MaxInt, api.ErrDepth}, {math.MaxInt, math.MinInt, api.OK},
		{math.MaxInt, math.MaxInt, api.OK}, {math.MinInt, 1, api.ErrDepth}, {math.MinInt, math.MinInt, api.OK},
	} {
		if err := budget.Enter(api.Limits{Depth: c.limit}, c.depth); err != c.want {
			t.Errorf("Enter at depth %d with the limit %d returned %d, not %d", c.depth, c.limit, err, c.want)
		}
	}
}

func TestEnterAtEdges(t *testing.T) {
	// The edges ascend, so that their order is that of their indices.
	for i, limit := range edges {
		for k, depth := range edges {
			want := api.ErrDepth
			if k <= i {
				want = api.OK
			}
			if err := budget.Enter(api.Limits{Depth: limit}, depth); err != want {
				t.Errorf("Enter at depth %d with the limit %d returned %d, not %d", depth, limit, err, want)
			}
		}
	}
}

func TestEnterIgnoresOtherLimits(t *testing.T) {
	for _, words := range edges {
		for _, out := range edges {
			l := api.Limits{Depth: 3, Words: words, Out: out}
			if budget.Enter(l, 3) != api.OK || budget.Enter(l, 4) != api.ErrDepth {
				t.Errorf("Enter depends on the budget %d or the output limit %d", words, out)
			}
		}
	}
}

// P9.2: a charge reduces the budget, or fails and leaves it as it is.

func TestChargeExample(t *testing.T) {
	m := budget.Start(api.Limits{Words: 5})
	for _, c := range []struct {
		cost, left int
		want       api.Errno
	}{{3, 2, api.OK}, {2, 0, api.OK}, {1, 0, api.ErrBudget}, {0, 0, api.OK}} {
		next, err := budget.Charge(m, c.cost)
		if next != (api.Meter{Words: c.left}) || err != c.want {
			t.Errorf("charging %d to %+v returned %+v, %d", c.cost, m, next, err)
		}
		m = next
	}
}

func TestChargeSmall(t *testing.T) {
	for words := -3; words < 40; words++ {
		for cost := range 50 {
			checkCharge(t, words, cost)
		}
	}
}

func TestChargeAtEdges(t *testing.T) {
	for _, words := range edges {
		for _, cost := range costs() {
			checkCharge(t, words, cost)
		}
	}
}

func TestChargeNextToTheBudget(t *testing.T) {
	for _, cost := range costs() {
		for _, more := range []int{-1, 0, 1} {
			checkCharge(t, cost+more, cost)
		}
	}
}

// checkCharge compares a charge with the chapter's definition.
func checkCharge(t *testing.T, words, cost int) {
	t.Helper()
	left, want := words, api.ErrBudget
	if words >= 0 && uint64(cost) <= uint64(words) {
		left, want = words-cost, api.OK
	}
	m, err := budget.Charge(api.Meter{Words: words}, cost)
	if m != (api.Meter{Words: left}) || err != want {
		t.Errorf("charging %d to the budget %d returned %+v, %d, not %d, %d", cost, words, m, err, left, want)
	}
}

func TestChargeAfterFailure(t *testing.T) {
	m := api.Meter{Words: 4}
	m, err := budget.Charge(m, 5)
	if err != api.ErrBudget {
		t.Fatalf("charging 5 to the budget 4 returned %d", err)
	}
	if m, err = budget.Charge(m, 4); m.Words != 0 || err != api.OK {
		t.Errorf("charging 4 after a failed charge returned %+v, %d", m, err)
	}
}

// P9.2: Used is the difference between the budgets.

func TestUsed(t *testing.T) {
	for _, c := range []struct{ limit, left, want int }{
		{5, 5, 0}, {5, 2, 3}, {5, 0, 5}, {0, 0, 0}, {-3, 0, 0}, {math.MinInt, 0, 0}, {-3, 2, -2}, {5, 9, -4}, {5, -1, 6},
		{math.MaxInt, math.MaxInt, 0}, {math.MaxInt, 0, math.MaxInt}, {0, math.MaxInt, -math.MaxInt},
		{math.MinInt, math.MaxInt, -math.MaxInt}, {maxCost + 1, 1, maxCost}, {math.MaxInt32 + 1, 1, math.MaxInt32},
	} {
		if n := budget.Used(api.Limits{Words: c.limit}, api.Meter{Words: c.left}); n != c.want {
			t.Errorf("Used with the budget %d and %d left returned %d, not %d", c.limit, c.left, n, c.want)
		}
	}
}

func TestUsedIgnoresOtherLimits(t *testing.T) {
	for _, depth := range edges {
		for _, out := range edges {
			if n := budget.Used(api.Limits{Depth: depth, Words: 7, Out: out}, api.Meter{Words: 3}); n != 4 {
				t.Errorf("Used with the depth %d and the output limit %d returned %d", depth, out, n)
			}
		}
	}
}

// P9.3: the sum of all successful charges never exceeds the budget.

func TestSumOfCharges(t *testing.T) {
	random := rand.New(rand.NewSource(9))
	for range 2000 {
		limit := random.Intn(200) - 20
		checkSum(t, limit, func() int { return random.Intn(30) })
	}
	for _, limit := range edges {
		checkSum(t, limit, func() int { return random.Intn(maxCost + 1) })
		checkSum(t, limit, func() int { return random.Intn(2) })
	}
}

// checkSum charges costs to the budget of a limit, and goes on after those that fail.
func checkSum(t *testing.T, limit int, cost func() int) {
	t.Helper()
	l := api.Limits{Words: limit}
	m := budget.Start(l)
	sum, most := 0, max(0, limit)
	for range 100 {
		n := cost()
		next, err := budget.Charge(m, n)
		if (err == api.OK) != (n <= most-sum) {
			t.Fatalf("charging %d after %d of %d returned %d", n, sum, limit, err)
		}
		if err == api.OK {
			sum += n
		}
		if sum > most || next.Words != most-sum || budget.Used(l, next) != sum {
			t.Fatalf("after charges of %d words, the budget %d is %+v and %d words are used", sum, limit, next, budget.Used(l, next))
		}
		m = next
	}
}

func TestChargesOfOne(t *testing.T) {
	for limit := range 100 {
		m := budget.Start(api.Limits{Words: limit})
		count := 0
		for err := api.OK; err == api.OK && count <= limit; {
			if m, err = budget.Charge(m, 1); err == api.OK {
				count++
			}
		}
		if count != limit {
			t.Errorf("%d charges of one word succeeded, not %d", count, limit)
		}
	}
}

// P1: no function panics, also for costs that are not specified.

func TestNoPanic(t *testing.T) {
	for _, a := range edges {
		for _, b := range edges {
			l := api.Limits{Depth: a, Words: a, Out: a}
			budget.Start(l)
			budget.Enter(l, b)
			budget.Charge(api.Meter{Words: a}, b)
			budget.Used(l, api.Meter{Words: b})
		}
	}
}
