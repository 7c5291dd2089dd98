package policy_test

import (
	"math"
	"slices"
	"testing"

	"compline/api"
	"compline/policy"
	"compline/queuetest"
)

// some is a policy of which nothing is near its limit.
func some() api.Policy { return api.Policy{On: true, Small: 4, Large: 100, Churn: 50, Calm: 2} }

// usual are the tallies behind which some wants each kind, in the order of the kinds.
func usual() [5]api.Tally {
	return [5]api.Tally{
		api.KindList:  {Inserts: 3, Most: 3},
		api.KindHeap:  {Inserts: 10, Cancels: 4, Most: 50},
		api.KindPair:  {Inserts: 10, Moves: 4, Most: 101},
		api.KindHash:  {Inserts: 10, Cancels: 2, Moves: 3, Most: 50},
		api.KindWheel: {Inserts: 10, Cancels: 5, Most: 101},
	}
}

// tallies are usual ones behind which these kinds are wanted.
func tallies(kinds ...int) []api.Tally {
	var l []api.Tally
	for _, k := range kinds {
		l = append(l, usual()[k])
	}
	return l
}

// edges are the numbers about a limit's two ends, and far ones.
func edges(low, high int) []int {
	return []int{math.MinInt, -1 << 32, low - 2, low - 1, low, low + 1, high - 1, high, high + 1, high + 2, 1 << 32, math.MaxInt}
}

// is tells whether a number is one from low to high.
func is(n, low, high int) bool { return low <= n && n <= high }

// isPolicy tells what Check does, limit by limit.
func isPolicy(p api.Policy) bool {
	return is(p.Large, 0, 1024) && is(p.Small, 0, p.Large) && is(p.Churn, 0, 100) && is(p.Calm, 1, 16)
}

// places are a tally's five numbers.
func places(t *api.Tally) []*int {
	return []*int{&t.Inserts, &t.Cancels, &t.Moves, &t.Fires, &t.Most}
}

// isTally tells whether each of its numbers is one that may be.
func isTally(t api.Tally) bool {
	return !slices.ContainsFunc(places(&t), func(n *int) bool { return !is(*n, 0, 1000000) })
}

// plain is what Wants tells, in the chapter's words.
func plain(p api.Policy, t api.Tally) (int, api.Errno) {
	if !isPolicy(p) || !isTally(t) {
		return 0, api.ErrArg
	}
	if t.Most <= p.Small {
		return api.KindList, api.OK
	}
	if 100*(t.Cancels+t.Moves) >= p.Churn*t.Inserts {
		if t.Most <= p.Large {
			return api.KindHash, api.OK
		}
		return api.KindWheel, api.OK
	}
	if t.Most <= p.Large {
		return api.KindHeap, api.OK
	}
	return api.KindPair, api.OK
}

// stepped is what a Step tells.
type stepped struct {
	m     api.Mood
	taken bool
	e     api.Errno
}

// plainStep is what Step tells, in the chapter's words.
func plainStep(p api.Policy, m api.Mood, now int, t api.Tally) stepped {
	w, e := plain(p, t)
	switch {
	case e != api.OK:
		return stepped{e: e}
	case !is(now, 0, 4):
		return stepped{e: api.ErrKind}
	case !is(m.Want, 0, 4) || !is(m.For, 0, 16):
		return stepped{e: api.ErrArg}
	case !p.On:
		return stepped{}
	case w == now:
		return stepped{m: api.Mood{Want: w, For: 0}}
	}
	n := 1
	if m.Want == w {
		n = m.For + 1
	}
	if n >= p.Calm {
		return stepped{m: api.Mood{Want: w, For: 0}, taken: true}
	}
	return stepped{m: api.Mood{Want: w, For: n}}
}

// plainRun is what Run tells of what is wanted behind each tally, without a mood: one is
// there once it was wanted behind as many tallies on end as Calm says.
func plainRun(calm, now int, wants []int) []int {
	var kinds []int
	for i, w := range wants {
		if i+1 >= calm && !slices.ContainsFunc(wants[i+1-calm:i], func(k int) bool { return k != w }) {
			now = w
		}
		kinds = append(kinds, now)
	}
	return kinds
}

func checkWants(t *testing.T, p api.Policy, y api.Tally) {
	t.Helper()
	want, wrong := plain(p, y)
	if k, e := policy.Wants(p, y); k != want || e != wrong {
		t.Fatalf("Wants(%+v, %+v): %d, %v, not %d, %v", p, y, k, e, want, wrong)
	}
}

func checkStep(t *testing.T, p api.Policy, m api.Mood, now int, y api.Tally) {
	t.Helper()
	want := plainStep(p, m, now, y)
	n, taken, e := policy.Step(p, m, now, y)
	if got := (stepped{n, taken, e}); got != want {
		t.Fatalf("Step(%+v, %+v, %d, %+v): %+v, not %+v", p, m, now, y, got, want)
	}
}

func checkRun(t *testing.T, p api.Policy, now int, l []api.Tally, want []int, wrong api.Errno) {
	t.Helper()
	if k, e := policy.Run(p, now, l); !slices.Equal(k, want) || e != wrong {
		t.Fatalf("Run(%+v, %d, %+v): %v, %v, not %v, %v", p, now, l, k, e, want, wrong)
	}
}

// wants are which kinds are wanted behind tallies of which none is wrong.
func wants(p api.Policy, l []api.Tally) []int {
	var kinds []int
	for _, y := range l {
		k, _ := plain(p, y)
		kinds = append(kinds, k)
	}
	return kinds
}

func TestExamples(t *testing.T) {
	p := some()
	for i, x := range []struct {
		y    api.Tally
		kind int
	}{
		{api.Tally{Most: 3}, api.KindList},
		{api.Tally{Most: 50, Inserts: 10, Cancels: 5}, api.KindHash},
		{api.Tally{Most: 50, Inserts: 10, Cancels: 4}, api.KindHeap},
		{api.Tally{Most: 101, Inserts: 10, Cancels: 4}, api.KindPair},
	} {
		if k, e := policy.Wants(p, x.y); k != x.kind || e != api.OK {
			t.Error(i, k, e)
		}
	}
	checkRun(t, p, api.KindList, []api.Tally{{Most: 50}, {Most: 50}, {Most: 3}, {Most: 3}},
		[]int{api.KindList, api.KindHash, api.KindHash, api.KindList}, api.OK)
}

// TestCheck tries all numbers about the limits, beside each other.
func TestCheck(t *testing.T) {
	right := 0
	for _, large := range edges(0, 1024) {
		for _, small := range slices.Concat(edges(0, 1024), []int{7}, edges(0, 7)) {
			for _, churn := range edges(0, 100) {
				for _, calm := range edges(1, 16) {
					for _, on := range []bool{false, true} {
						p := api.Policy{On: on, Small: small, Large: large, Churn: churn, Calm: calm}
						want := api.ErrArg
						if isPolicy(p) {
							want = api.OK
							right++
						}
						if e := policy.Check(p); e != want {
							t.Fatalf("Check(%+v): %v, not %v", p, e, want)
						}
					}
				}
			}
		}
	}
	if right == 0 {
		t.Error("none was right")
	}
}

// TestCheckEach tries all numbers of each limit, where the others are far from theirs.
func TestCheckEach(t *testing.T) {
	tries := func(name string, low, high int, with func(p *api.Policy, n int)) {
		for n := low - 50; n <= high+50; n++ {
			p := some()
			with(&p, n)
			want := api.ErrArg
			if is(n, low, high) {
				want = api.OK
			}
			if e := policy.Check(p); e != want {
				t.Errorf("%s %d: %v, not %v", name, n, e, want)
			}
		}
	}
	tries("small", 0, some().Large, func(p *api.Policy, n int) { p.Small = n })
	tries("large", some().Small, 1024, func(p *api.Policy, n int) { p.Large = n })
	tries("churn", 0, 100, func(p *api.Policy, n int) { p.Churn = n })
	tries("calm", 1, 16, func(p *api.Policy, n int) { p.Calm = n })
}

// policies are right ones, at their limits and between them.
func policies() []api.Policy {
	var l []api.Policy
	for _, size := range [][2]int{{0, 0}, {0, 1}, {1, 1}, {4, 100}, {100, 100}, {0, 1024}, {1023, 1024}, {1024, 1024}} {
		for _, churn := range []int{0, 1, 49, 50, 51, 99, 100} {
			for _, calm := range []int{1, 16} {
				l = append(l, api.Policy{Small: size[0], Large: size[1], Churn: churn, Calm: calm})
			}
		}
	}
	return l
}

// TestWants tries right policies, and tallies of numbers about where they tell apart.
func TestWants(t *testing.T) {
	seen := map[int]bool{}
	for _, p := range policies() {
		for _, most := range []int{0, 1, 2, 4, 5, 99, 100, 101, 1023, 1024, 1025, 1000000} {
			for _, inserts := range []int{0, 1, 2, 10, 99, 100, 101, 1000000} {
				for _, cancels := range []int{0, 1, 4, 5, 49, 50, 51, 490000, 500000, 1000000} {
					for _, moves := range []int{0, 1, 5, 50, 499999, 500000, 1000000} {
						y := api.Tally{Inserts: inserts, Cancels: cancels, Moves: moves, Most: most}
						checkWants(t, p, y)
						k, _ := policy.Wants(p, y)
						seen[k] = true
					}
				}
			}
		}
	}
	if len(seen) != 5 {
		t.Error("not all kinds were wanted", seen)
	}
}

// TestNearlyChurned goes to where what is cancelled and moved is just enough, and to one
// less, for each Churn.
func TestNearlyChurned(t *testing.T) {
	for churn := range 101 {
		p := some()
		p.Churn = churn
		for _, inserts := range []int{0, 1, 3, 7, 100, 333, 32 * 1024, 999999, 1000000} {
			enough := (churn*inserts + 99) / 100
			for _, x := range []struct{ sum, few, many int }{
				{enough, api.KindHash, api.KindWheel},
				{enough - 1, api.KindHeap, api.KindPair},
			} {
				if x.sum < 0 {
					continue
				}
				for _, moves := range []int{0, x.sum / 3, x.sum} {
					y := api.Tally{Inserts: inserts, Cancels: x.sum - moves, Moves: moves, Most: 100}
					if k, e := policy.Wants(p, y); k != x.few || e != api.OK {
						t.Fatalf("churn %d, %+v: %d, %v", churn, y, k, e)
					}
					y.Most = 101
					if k, e := policy.Wants(p, y); k != x.many || e != api.OK {
						t.Fatalf("churn %d, %+v: %d, %v", churn, y, k, e)
					}
					y.Most = 4
					if k, e := policy.Wants(p, y); k != api.KindList || e != api.OK {
						t.Fatalf("churn %d, %+v: %d, %v", churn, y, k, e)
					}
				}
			}
		}
	}
}

// TestNoDifference changes what makes no difference to what is wanted: On, Calm, and
// those that fired.
func TestNoDifference(t *testing.T) {
	for want, y := range usual() {
		for _, on := range []bool{false, true} {
			for calm := 1; calm <= 16; calm++ {
				for _, fires := range []int{0, 1, 100, 1000000} {
					p := some()
					p.On, p.Calm, y.Fires = on, calm, fires
					if k, e := policy.Wants(p, y); k != want || e != api.OK {
						t.Fatalf("Wants(%+v, %+v): %d, %v, not %d", p, y, k, e, want)
					}
				}
			}
		}
	}
}

// TestTallies puts numbers about the limits, and far ones, at each place of a tally.
func TestTallies(t *testing.T) {
	for _, y := range usual() {
		for i := range places(&y) {
			for _, n := range edges(0, 1000000) {
				for _, on := range []bool{false, true} {
					bad, p := y, some()
					*places(&bad)[i], p.On = n, on
					checkWants(t, p, bad)
					checkStep(t, p, api.Mood{}, api.KindHeap, bad)
					if _, e := policy.Wants(p, bad); (e == api.OK) != is(n, 0, 1000000) {
						t.Fatalf("Wants(%+v): %v", bad, e)
					}
				}
			}
		}
	}
}

// TestWantsNoPolicy asks what policies want that are none, and tallies that are none:
// nothing.
func TestWantsNoPolicy(t *testing.T) {
	for _, p := range []api.Policy{
		{}, {Calm: 17}, {Calm: -1}, {Large: 1025, Calm: 1}, {Large: -1, Calm: 1}, {Small: 1, Calm: 1},
		{Small: -1, Large: 9, Calm: 1}, {Churn: 101, Calm: 1}, {Churn: -1, Calm: 1},
		{Small: math.MinInt, Large: math.MaxInt, Churn: math.MaxInt, Calm: math.MinInt},
	} {
		for _, y := range append(tallies(0, 1, 2, 3, 4), api.Tally{Most: -1}, api.Tally{Inserts: math.MaxInt}) {
			checkWants(t, p, y)
			checkStep(t, p, api.Mood{}, api.KindHeap, y)
			checkStep(t, p, api.Mood{Want: 7}, -1, y)
		}
	}
}

// TestStep tries each mood with each kind there and each one wanted, for each Calm.
func TestStep(t *testing.T) {
	for calm := 1; calm <= 16; calm++ {
		for _, on := range []bool{false, true} {
			p := some()
			p.On, p.Calm = on, calm
			for now := range 5 {
				for want := range 5 {
					for n := range 17 {
						for _, y := range usual() {
							checkStep(t, p, api.Mood{Want: want, For: n}, now, y)
						}
					}
				}
			}
		}
	}
}

// TestStepFirstError puts what is wrong beside what is wrong: the first error is told,
// whether the policy is on or not.
func TestStepFirstError(t *testing.T) {
	late := some()
	late.Calm = 17
	for _, on := range []bool{false, true} {
		for _, p := range []api.Policy{some(), late} {
			p.On = on
			for _, y := range append(tallies(0, 1, 2, 3, 4), api.Tally{Cancels: -1}, api.Tally{Most: 1000001}) {
				for _, now := range edges(0, 4) {
					for _, want := range edges(0, 4) {
						for _, n := range edges(0, 16) {
							checkStep(t, p, api.Mood{Want: want, For: n}, now, y)
						}
					}
				}
			}
		}
	}
}

// TestStepErrors names the errors themselves.
func TestStepErrors(t *testing.T) {
	wrong := some()
	wrong.Churn = 101
	for i, x := range []struct {
		p    api.Policy
		m    api.Mood
		now  int
		most int
		e    api.Errno
	}{
		{p: wrong, now: 5, e: api.ErrArg},
		{p: some(), now: 5, most: -1, e: api.ErrArg},
		{p: some(), now: 5, e: api.ErrKind},
		{p: some(), now: -1, m: api.Mood{Want: 5}, e: api.ErrKind},
		{p: some(), now: 4, m: api.Mood{Want: 5}, e: api.ErrArg},
		{p: some(), now: 4, m: api.Mood{Want: -1}, e: api.ErrArg},
		{p: some(), now: 4, m: api.Mood{For: 17}, e: api.ErrArg},
		{p: some(), now: 4, m: api.Mood{For: -1}, e: api.ErrArg},
	} {
		m, taken, e := policy.Step(x.p, x.m, x.now, api.Tally{Most: x.most})
		if m != (api.Mood{}) || taken || e != x.e {
			t.Error(i, m, taken, e)
		}
	}
}

// ways goes all ways of so many kinds that are wanted, or less.
func ways(n int, do func(kinds []int)) {
	var further func(kinds []int)
	further = func(kinds []int) {
		do(kinds)
		if len(kinds) == n {
			return
		}
		for k := range 5 {
			further(append(slices.Clone(kinds), k))
		}
	}
	further(nil)
}

// TestRun goes all ways that a few tallies may go, from each kind on.
func TestRun(t *testing.T) {
	ways(5, func(kinds []int) {
		l := tallies(kinds...)
		for now := range 5 {
			for calm := 1; calm <= 6; calm++ {
				p := some()
				p.Calm = calm
				checkRun(t, p, now, l, plainRun(calm, now, kinds), api.OK)
			}
		}
	})
}

// TestRunOff lets no policy be on: there stays what there is.
func TestRunOff(t *testing.T) {
	p := some()
	p.On = false
	ways(3, func(kinds []int) {
		for now := range 5 {
			checkRun(t, p, now, tallies(kinds...), slices.Repeat([]int{now}, len(kinds)), api.OK)
		}
	})
}

// random is a tally of numbers about where policies tell apart.
func random(dice func(n int) int) api.Tally {
	return api.Tally{
		Inserts: dice(33),
		Cancels: dice(9),
		Moves:   dice(9),
		Fires:   dice(33),
		Most:    []int{0, 3, 4, 5, 99, 100, 101, 1024}[dice(8)],
	}
}

// TestLongRuns goes long ways, and holds them against the steps one by one, and against
// what was wanted on end.
func TestLongRuns(t *testing.T) {
	for seed := range 300 {
		dice := queuetest.Dice(uint64(seed))
		p := some()
		p.Churn, p.Calm = dice(101), 1+dice(16)
		var l []api.Tally
		for range 60 {
			y := random(dice)
			// So that some kinds are wanted long enough, each comes a few times.
			for range 1 + dice(20) {
				l = append(l, y)
			}
		}
		now := dice(5)
		checkRun(t, p, now, l, plainRun(p.Calm, now, wants(p, l)), api.OK)
		var steps []int
		var m api.Mood
		kind := now
		for _, y := range l {
			n, taken, e := policy.Step(p, m, kind, y)
			if e != api.OK {
				t.Fatalf("Step(%+v, %+v, %d, %+v): %v", p, m, kind, y, e)
			}
			if taken {
				kind = n.Want
			}
			m = n
			steps = append(steps, kind)
		}
		checkRun(t, p, now, l, steps, api.OK)
	}
}

// TestRunNothing runs through no tallies: nothing is looked at.
func TestRunNothing(t *testing.T) {
	for _, p := range []api.Policy{some(), {}, {Calm: 17}, {Small: -1}} {
		for _, now := range edges(0, 4) {
			checkRun(t, p, now, nil, nil, api.OK)
			checkRun(t, p, now, []api.Tally{}, nil, api.OK)
		}
	}
}

// TestRunErrors puts what is wrong at each place: no kinds are told.
func TestRunErrors(t *testing.T) {
	none := some()
	none.Large = 3
	for _, on := range []bool{false, true} {
		none.On = on
		p := some()
		p.On = on
		for size := 1; size < 8; size++ {
			l := slices.Repeat(tallies(api.KindHash), size)
			checkRun(t, none, 0, l, nil, api.ErrArg)
			checkRun(t, none, 5, l, nil, api.ErrArg)
			checkRun(t, p, 5, l, nil, api.ErrKind)
			checkRun(t, p, -1, l, nil, api.ErrKind)
			for at := range l {
				bad := slices.Clone(l)
				bad[at].Moves = 1000001
				checkRun(t, p, 0, bad, nil, api.ErrArg)
				want := api.ErrKind
				if at == 0 {
					want = api.ErrArg
				}
				checkRun(t, p, 5, bad, nil, want)
			}
		}
	}
}

// TestNotTooSoon looks at each kind that is taken: it was wanted as often in a row as
// Calm says.
func TestNotTooSoon(t *testing.T) {
	dice := queuetest.Dice(15)
	for calm := 1; calm <= 16; calm++ {
		p := some()
		p.Calm = calm
		var kinds []int
		for range 400 {
			kinds = append(kinds, slices.Repeat([]int{dice(5)}, 1+dice(2*calm))...)
		}
		now, taken := api.KindList, 0
		l, e := policy.Run(p, now, tallies(kinds...))
		if e != api.OK || len(l) != len(kinds) {
			t.Fatal(calm, len(l), e)
		}
		for i, k := range l {
			if k == now {
				continue
			}
			now = k
			taken++
			for j := range calm {
				if i-j < 0 || kinds[i-j] != k {
					t.Fatalf("calm %d: %d is there behind %v", calm, k, kinds[:i+1])
				}
			}
		}
		if taken == 0 {
			t.Errorf("calm %d: none was taken", calm)
		}
	}
}

// TestInTurn wants two kinds in turn, of which one is there: it stays, if Calm is 2 or
// more, and else they take turns.
func TestInTurn(t *testing.T) {
	for a := range 5 {
		for b := range 5 {
			if a == b {
				continue
			}
			turns := slices.Repeat([]int{a, b}, 40)
			for calm := 1; calm <= 16; calm++ {
				p := some()
				p.Calm = calm
				for _, now := range []int{a, b} {
					want := slices.Repeat([]int{now}, len(turns))
					if calm == 1 {
						want = turns
					}
					checkRun(t, p, now, tallies(turns...), want, api.OK)
				}
			}
		}
	}
}

// TestSteady wants one kind again and again: it is there behind Calm tallies, and stays.
func TestSteady(t *testing.T) {
	for now := range 5 {
		for w := range 5 {
			for calm := 1; calm <= 16; calm++ {
				p := some()
				p.Calm = calm
				want := slices.Concat(slices.Repeat([]int{now}, calm-1), slices.Repeat([]int{w}, 40))
				checkRun(t, p, now, slices.Repeat(tallies(w), calm+39), want, api.OK)
			}
		}
	}
}

// TestNothingShared spoils what was told and what was handed in: what is told again is
// the same, and what was handed in is not changed.
func TestNothingShared(t *testing.T) {
	p, l := some(), tallies(3, 3, 1, 1, 0, 0)
	want := []int{0, 3, 3, 1, 1, 0}
	kept := slices.Clone(l)
	k, _ := policy.Run(p, 0, l)
	for i := range k {
		k[i] = 99
	}
	if !slices.Equal(l, kept) {
		t.Error("changed", l)
	}
	checkRun(t, p, 0, l, want, api.OK)
	k, _ = policy.Run(p, 0, l)
	clear(l)
	if !slices.Equal(k, want) {
		t.Error("shared", k)
	}
}
