package load_test

import (
	"math"
	"slices"
	"testing"

	"compline/api"
	"compline/load"
	"compline/queuetest"
)

// note is what Note is given.
type note struct{ what, n, length int }

// loader has the calls of a load.
type loader interface {
	Note(what, n, length int) api.Errno
	Open() api.Tally
	Last() (api.Tally, bool)
	Notes() int
	Windows() int
	Total(what int) int
}

// plain is a list of all that was noted: it looks through it whenever it is asked.
type plain struct{ all []note }

func (m *plain) Note(what, n, length int) api.Errno {
	switch {
	case !slices.Contains(done(), what):
		return api.ErrKind
	case n < 0 || n > 1024 || length < 0 || length > 1024:
		return api.ErrArg
	}
	m.all = append(m.all, note{what, n, length})
	return api.OK
}

func (m *plain) Open() api.Tally { return tally(m.all[m.Windows()*32:]) }

func (m *plain) Last() (api.Tally, bool) {
	w := m.Windows()
	if w == 0 {
		return api.Tally{}, false
	}
	return tally(m.all[w*32-32 : w*32]), true
}

func (m *plain) Notes() int { return len(m.all) % 32 }

func (m *plain) Windows() int { return len(m.all) / 32 }

func (m *plain) Total(what int) int {
	t := tally(m.all)
	switch what {
	case api.Inserted:
		return t.Inserts
	case api.Cancelled:
		return t.Cancels
	case api.Moved:
		return t.Moves
	case api.Fired:
		return t.Fires
	}
	return 0
}

// tally is what was noted in a list.
func tally(l []note) api.Tally {
	var t api.Tally
	for _, x := range l {
		switch x.what {
		case api.Inserted:
			t.Inserts += x.n
		case api.Cancelled:
			t.Cancels += x.n
		case api.Moved:
			t.Moves += x.n
		case api.Fired:
			t.Fires += x.n
		}
		t.Most = max(t.Most, x.length)
	}
	return t
}

// done are the numbers of what is done.
func done() []int { return []int{api.Inserted, api.Cancelled, api.Moved, api.Fired} }

// far are numbers of nothing that is done.
func far() []int {
	return []int{math.MinInt, math.MinInt + 1, -1 << 32, -1<<32 + 1, -2, -1, 4, 5, 6, 255, 256, 1024, 1 << 32, 1<<32 + 3, math.MaxInt}
}

// amounts are numbers of timers that may be, and those that may not be.
func amounts() ([]int, []int) {
	return []int{0, 1, 2, 1023, 1024},
		[]int{math.MinInt, math.MinInt + 1, -1 << 32, -1024, -1, 1025, 2048, 1 << 32, 1<<32 + 1, math.MaxInt}
}

// told is all that a load tells.
type told struct {
	open, last     api.Tally
	ok             bool
	notes, windows int
	total          [4]int
	beyond         int
}

func all(l loader) told {
	x := told{open: l.Open(), notes: l.Notes(), windows: l.Windows()}
	x.last, x.ok = l.Last()
	for i, what := range done() {
		x.total[i] = l.Total(what)
	}
	for _, what := range far() {
		x.beyond |= l.Total(what)
	}
	return x
}

// check holds what a load tells against what the list does.
func check(t *testing.T, l loader, m *plain) {
	t.Helper()
	if got, want := all(l), all(m); got != want {
		t.Fatalf("behind %d notes:\n%+v\nnot\n%+v", len(m.all), got, want)
	}
}

// put notes the same in both.
func put(t *testing.T, l loader, m *plain, x note) {
	t.Helper()
	got, want := l.Note(x.what, x.n, x.length), m.Note(x.what, x.n, x.length)
	if got != want {
		t.Fatalf("Note(%v): %v, not %v", x, got, want)
	}
	check(t, l, m)
}

// random is a note that is allowed.
func random(dice func(n int) int) note {
	x := note{what: dice(4), n: dice(5), length: dice(9)}
	if dice(20) == 0 {
		x.n = dice(1025)
	}
	if dice(50) == 0 {
		x.length = dice(1025)
	}
	return x
}

// filled is a load in which so many were noted, and the list of them.
func filled(t *testing.T, n int) (*load.Load, *plain) {
	t.Helper()
	l, m := load.New(), &plain{}
	dice := queuetest.Dice(uint64(n))
	for range n {
		x := random(dice)
		if e := l.Note(x.what, x.n, x.length); e != api.OK {
			t.Fatalf("Note(%v): %v", x, e)
		}
		m.all = append(m.all, x)
	}
	check(t, l, m)
	return l, m
}

func TestExample(t *testing.T) {
	l := load.New()
	l.Note(api.Inserted, 1, 5)
	l.Note(api.Fired, 2, 3)
	want := api.Tally{Inserts: 1, Fires: 2, Most: 5}
	if got := l.Open(); got != want || l.Notes() != 2 || l.Windows() != 0 {
		t.Error("behind two notes", got, l.Notes(), l.Windows())
	}
	if last, ok := l.Last(); last != (api.Tally{}) || ok {
		t.Error("the last one behind two notes", last, ok)
	}
	for range 30 {
		if e := l.Note(api.Fired, 0, 0); e != api.OK {
			t.Error("nothing fired", e)
		}
	}
	if last, ok := l.Last(); last != want || !ok || l.Notes() != 0 || l.Windows() != 1 {
		t.Error("behind 32 notes", last, ok, l.Notes(), l.Windows())
	}
	if got := l.Open(); got != (api.Tally{}) {
		t.Error("the open one behind 32 notes", got)
	}
}

func TestNew(t *testing.T) {
	l := load.New()
	if got := all(l); got != (told{}) {
		t.Errorf("nothing was noted: %+v", got)
	}
	other := load.New()
	l.Note(api.Moved, 3, 4)
	if got := all(other); got != (told{}) {
		t.Errorf("nothing was noted in the other one: %+v", got)
	}
}

// TestEach notes one of each that is done, with the least and the most there may be.
func TestEach(t *testing.T) {
	ns, _ := amounts()
	for _, what := range done() {
		for _, n := range ns {
			for _, length := range ns {
				l, m := load.New(), &plain{}
				put(t, l, m, note{what, n, length})
			}
		}
	}
}

// TestNumbers holds the numbers of what is done against the tally's names.
func TestNumbers(t *testing.T) {
	l := load.New()
	for what, n := range []int{2, 3, 5, 7} {
		l.Note(what, n, 1)
	}
	want := api.Tally{Inserts: 2, Cancels: 3, Moves: 5, Fires: 7, Most: 1}
	if got := l.Open(); got != want {
		t.Errorf("%+v, not %+v", got, want)
	}
	for what, n := range []int{2, 3, 5, 7} {
		if got := l.Total(what); got != n {
			t.Errorf("Total(%d): %d, not %d", what, got, n)
		}
	}
}

// TestRefused tries all that is wrong, and what is wrong in two ways, at loads of all
// numbers of notes: the first error is told, and nothing is noted.
func TestRefused(t *testing.T) {
	right, wrong := amounts()
	var ns []note
	for _, what := range far() {
		for _, n := range slices.Concat(right, wrong) {
			ns = append(ns, note{what, n, 3}, note{what, 3, n}, note{what, n, n})
		}
	}
	for _, what := range done() {
		for _, n := range wrong {
			for _, x := range slices.Concat(right, wrong) {
				ns = append(ns, note{what, n, x}, note{what, x, n})
			}
		}
	}
	for _, size := range []int{0, 1, 30, 31, 32, 33, 63, 64, 95} {
		l, m := filled(t, size)
		for _, x := range ns {
			want := api.ErrArg
			if x.what < 0 || x.what > 3 {
				want = api.ErrKind
			}
			if e := l.Note(x.what, x.n, x.length); e != want {
				t.Fatalf("Note(%v): %v, not %v", x, e, want)
			}
		}
		check(t, l, m)
		put(t, l, m, note{api.Cancelled, 1, 1024})
	}
}

// TestWays goes long ways, right and wrong, and looks at all that is told behind each
// step.
func TestWays(t *testing.T) {
	for seed := range 40 {
		dice := queuetest.Dice(uint64(seed))
		l, m := load.New(), &plain{}
		for range 300 {
			x := random(dice)
			switch dice(12) {
			case 0:
				x.what = far()[dice(len(far()))]
			case 1:
				_, wrong := amounts()
				x.n = wrong[dice(len(wrong))]
			case 2:
				_, wrong := amounts()
				x.length = wrong[dice(len(wrong))]
			}
			put(t, l, m, x)
		}
	}
}

// TestBesides goes on with several loads in turn: none knows of another one.
func TestBesides(t *testing.T) {
	dice := queuetest.Dice(7)
	var ls [3]*load.Load
	var ms [3]plain
	for i := range ls {
		ls[i] = load.New()
	}
	for range 600 {
		i := dice(len(ls))
		put(t, ls[i], &ms[i], random(dice))
		for j := range ls {
			check(t, ls[j], &ms[j])
		}
	}
}

// TestAnyOrder notes a window of the same notes in many orders: its tally is the same
// one, and so are the totals.
func TestAnyOrder(t *testing.T) {
	dice := queuetest.Dice(14)
	ns := make([]note, api.Window)
	for i := range ns {
		ns[i] = random(dice)
	}
	ns[5].length = 1024
	want := tally(ns)
	for round := range 200 {
		for i := range ns {
			// In the first rounds the greatest length comes at each place in turn.
			j := i + dice(len(ns)-i)
			ns[i], ns[j] = ns[j], ns[i]
		}
		if at := slices.IndexFunc(ns, func(x note) bool { return x.length == 1024 }); round < len(ns) {
			ns[at], ns[round] = ns[round], ns[at]
		}
		l := load.New()
		for _, x := range ns {
			l.Note(x.what, x.n, x.length)
		}
		if got, ok := l.Last(); got != want || !ok {
			t.Fatalf("%v: %+v, not %+v", ns, got, want)
		}
	}
}

// TestSum sums up the windows as they close, and the open one: that is what was noted
// in all.
func TestSum(t *testing.T) {
	dice := queuetest.Dice(3)
	l := load.New()
	var closed [4]int
	for i := range 10 * api.Window {
		x := random(dice)
		l.Note(x.what, x.n, x.length)
		if l.Notes() == 0 {
			last, _ := l.Last()
			for what, n := range sums(last) {
				closed[what] += n
			}
		}
		for what, n := range sums(l.Open()) {
			if got := l.Total(what); got != closed[what]+n {
				t.Fatalf("behind %d notes: Total(%d) is %d, not %d and %d", i+1, what, got, closed[what], n)
			}
		}
	}
}

// sums are how many of each that is done there are in a tally.
func sums(t api.Tally) [4]int { return [4]int{t.Inserts, t.Cancels, t.Moves, t.Fires} }

// TestMost looks at how the greatest length goes up, never down, and ends with its
// window.
func TestMost(t *testing.T) {
	l := load.New()
	for i, x := range []struct{ length, most int }{{0, 0}, {3, 3}, {2, 3}, {3, 3}, {4, 4}, {0, 4}, {1024, 1024}, {1023, 1024}} {
		l.Note(api.Moved, 0, x.length)
		if got := l.Open().Most; got != x.most {
			t.Errorf("note %d: %d, not %d", i, got, x.most)
		}
	}
	for l.Windows() == 0 {
		l.Note(api.Moved, 0, 0)
	}
	l.Note(api.Moved, 0, 6)
	if last, _ := l.Last(); last.Most != 1024 || l.Open().Most != 6 {
		t.Error("the next window", last.Most, l.Open().Most)
	}
}

// TestLast looks at the tally that was closed last till the next one is closed, and at
// how an empty window behind it closes.
func TestLast(t *testing.T) {
	l, m := filled(t, 31)
	put(t, l, m, note{api.Inserted, 1024, 1024})
	first, _ := l.Last()
	for range 31 {
		put(t, l, m, note{api.Fired, 0, 0})
		if last, ok := l.Last(); last != first || !ok {
			t.Fatal("it is not the last one any more", last, ok)
		}
	}
	put(t, l, m, note{api.Fired, 0, 0})
	if last, ok := l.Last(); last != (api.Tally{}) || !ok {
		t.Error("a window of nothing", last, ok)
	}
}

// TestGreatest notes so much that it is more than 32 bits hold.
func TestGreatest(t *testing.T) {
	const windows = 1 << 17
	l := load.New()
	for range windows * api.Window {
		l.Note(api.Cancelled, 1024, 1024)
	}
	want := told{
		last:    api.Tally{Cancels: 32 * 1024, Most: 1024},
		ok:      true,
		windows: windows,
		total:   [4]int{api.Cancelled: windows * 32 * 1024},
	}
	if got := all(l); got != want {
		t.Errorf("%+v, not %+v", got, want)
	}
}
