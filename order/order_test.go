package order_test

import (
	"math"
	"slices"
	"testing"

	"compline/api"
	"compline/order"
)

type list = []api.Timer

// at are timers of these At; Seq and Place are nought.
func at(ticks ...uint64) list {
	var l list
	for _, x := range ticks {
		l = append(l, api.Timer{At: x})
	}
	return l
}

// letters are timers of which each parts from another one in one field alone,
// the least and the greatest one among them; in which order they stand is of
// no account.
func letters() list {
	return list{
		{At: 3, Seq: 2, Place: 1},
		{At: 0, Seq: 0, Place: math.MinInt},
		{At: 3, Seq: 1, Place: 1},
		{At: 4, Seq: 2, Place: 1},
		{At: 3, Seq: 2, Place: 0},
		{At: api.Never, Seq: api.Never, Place: math.MaxInt},
	}
}

// others are letters, and timers that stand in none of the lists.
func others() list {
	return append(letters(),
		api.Timer{},
		api.Timer{At: 0, Seq: 0, Place: math.MaxInt},
		api.Timer{At: 0, Seq: api.Never, Place: 0},
		api.Timer{At: 1},
		api.Timer{At: 3, Seq: 0, Place: math.MaxInt},
		api.Timer{At: 3, Seq: 2, Place: -1},
		api.Timer{At: 3, Seq: 2, Place: 2},
		api.Timer{At: 3, Seq: 3, Place: math.MinInt},
		api.Timer{At: 4, Seq: 1, Place: 9},
		api.Timer{At: 5},
		api.Timer{At: 1 << 63},
		api.Timer{At: api.Never, Seq: api.Never, Place: math.MinInt},
	)
}

// before is said by chapter 1.
func before(a, b api.Timer) bool {
	if a.At != b.At {
		return a.At < b.At
	}
	if a.Seq != b.Seq {
		return a.Seq < b.Seq
	}
	return a.Place < b.Place
}

// inOrder holds each timer against all that stand ahead of it.
func inOrder(l list) bool {
	for i := range l {
		for k := range i {
			if before(l[i], l[k]) {
				return false
			}
		}
	}
	return true
}

// ranked puts each timer to the place that those before it leave it.
func ranked(l list) list {
	out := make(list, len(l))
	for i, x := range l {
		n := 0
		for k, y := range l {
			if before(y, x) || y == x && k < i {
				n++
			}
		}
		out[n] = x
	}
	return out
}

// words are all lists of at most so many of these timers.
func words(of list, most int) []list {
	all := []list{nil, {}}
	last := []list{nil}
	for range most {
		var longer []list
		for _, l := range last {
			for _, x := range of {
				longer = append(longer, append(slices.Clone(l), x))
			}
		}
		all = append(all, longer...)
		last = longer
	}
	return all
}

// sortedWords are those of words that are in order.
func sortedWords(of list, most int) []list {
	return slices.DeleteFunc(words(of, most), func(l list) bool { return !inOrder(l) })
}

// mixed are n timers in no order, some of them the same.
func mixed(n int, seed uint64) list {
	var l list
	x := seed
	for range n {
		x = x*6364136223846793005 + 1442695040888963407
		l = append(l, api.Timer{At: x >> 60, Seq: x >> 40 & 3, Place: int(x>>33&3) - 1})
	}
	return l
}

// turned tells all orders in which the timers of l may stand.
func turned(l list, tell func(list)) {
	if len(l) == 0 {
		tell(nil)
		return
	}
	for i := range l {
		rest := slices.Concat(l[:i], l[i+1:])
		turned(rest, func(r list) { tell(append(list{l[i]}, r...)) })
	}
}

func TestExamples(t *testing.T) {
	if got := order.Sort(at(3, 1, 2)); !slices.Equal(got, at(1, 2, 3)) {
		t.Error("Sort of 3, 1, 2:", got)
	}
	one := api.Timer{At: 2, Seq: 1}
	want := list{{At: 1}, {At: 2}, one, {At: 3}}
	if got, e := order.Merge(order.Sort(at(3, 1, 2)), list{one}); !slices.Equal(got, want) || e != api.OK {
		t.Error("Merge of 1, 2, 3 and of 2 with Seq 1:", got, e)
	}
	due, rest, e := order.Cut(at(1, 2, 3), 2)
	if !slices.Equal(due, at(1, 2)) || !slices.Equal(rest, at(3)) || e != api.OK {
		t.Error("Cut of 1, 2, 3 at 2:", due, rest, e)
	}
}

func TestSorted(t *testing.T) {
	for _, l := range words(letters(), 4) {
		if got, want := order.Sorted(l), inOrder(l); got != want {
			t.Errorf("Sorted(%v): %v", l, got)
		}
	}
}

// Two that stand the wrong way round are seen wherever they stand.
func TestSortedLooksAtAll(t *testing.T) {
	long := ranked(mixed(300, 1))
	for i := range len(long) - 1 {
		l := slices.Clone(long)
		l[i], l[i+1] = l[i+1], l[i]
		if got, want := order.Sorted(l), l[i] == l[i+1]; got != want {
			t.Errorf("turned round at %d: %v", i, got)
		}
	}
	if !order.Sorted(long) {
		t.Error("a long list that is sorted")
	}
}

func TestSort(t *testing.T) {
	for _, l := range words(letters(), 4) {
		if got := order.Sort(l); !slices.Equal(got, ranked(l)) {
			t.Errorf("Sort(%v): %v", l, got)
		}
	}
	for n := range 200 {
		l := mixed(n, uint64(n))
		if got := order.Sort(l); !slices.Equal(got, ranked(l)) || !order.Sorted(got) {
			t.Errorf("Sort(%v): %v", l, got)
		}
	}
}

// However a list is turned, sorted it is the same.
func TestSortOfTurned(t *testing.T) {
	for _, l := range []list{letters(), append(letters(), letters()[0]), mixed(7, 5), make(list, 5)} {
		want := order.Sort(l)
		turned(l, func(r list) {
			if got := order.Sort(r); !slices.Equal(got, want) {
				t.Errorf("Sort(%v): %v; want %v", r, got, want)
			}
		})
	}
	long := mixed(1000, 7)
	want := order.Sort(long)
	for i := range long {
		r := slices.Concat(long[i:], long[:i])
		if i%2 == 1 {
			slices.Reverse(r)
		}
		if !slices.Equal(order.Sort(r), want) {
			t.Errorf("turned by %d it is another one", i)
		}
	}
}

// checkMerge: what is merged is what is sorted together.
func checkMerge(t *testing.T, l ...list) {
	t.Helper()
	got, e := order.Merge(l...)
	if want := ranked(slices.Concat(l...)); !slices.Equal(got, want) || e != api.OK {
		t.Errorf("Merge(%v): %v, %v; want %v", l, got, e, want)
	}
	if !slices.Equal(got, order.Sort(slices.Concat(l...))) {
		t.Errorf("Merge(%v): %v, and sorted together it is another one", l, got)
	}
}

func TestMergeOfFew(t *testing.T) {
	checkMerge(t)
	checkMerge(t, nil)
	checkMerge(t, nil, list{}, nil)
	some := sortedWords(letters(), 3)
	for _, a := range some {
		checkMerge(t, a)
		checkMerge(t, a, a, a)
		for _, b := range some {
			checkMerge(t, a, b)
		}
	}
	fewer := sortedWords(letters()[:4], 2)
	for _, a := range fewer {
		for _, b := range fewer {
			for _, c := range fewer {
				checkMerge(t, a, b, c)
			}
		}
	}
}

func TestMergeOfMany(t *testing.T) {
	for n := range 40 {
		var each, one, other []list
		for i := range n {
			each = append(each, ranked(mixed(i*7%11, uint64(i))))
			one = append(one, mixed(1, uint64(n-i)))
			other = append(other, ranked(mixed(i%2*9, uint64(i))))
		}
		checkMerge(t, each...)
		checkMerge(t, one...)
		checkMerge(t, other...)
	}
}

func TestMergeOfWrong(t *testing.T) {
	for n := 1; n <= 20; n++ {
		for bad := range n {
			for _, wrong := range []list{{{At: 3}, {At: 2}}, {{Seq: 3}, {Seq: 2}}, {{Place: 0}, {Place: -1}}, {{At: 1}, {At: 2}, {At: 3}, {At: 2}}} {
				var l []list
				for i := range n {
					l = append(l, ranked(mixed(i%4, uint64(i))))
				}
				l[bad] = wrong
				if got, e := order.Merge(l...); len(got) != 0 || e != api.ErrOrder {
					t.Errorf("the list %d of %d is not sorted: %v, %v", bad, n, got, e)
				}
				l[0], l[n-1] = wrong, wrong
				if got, e := order.Merge(l...); len(got) != 0 || e != api.ErrOrder {
					t.Errorf("the lists 0, %d and %d of %d are not sorted: %v, %v", bad, n-1, n, got, e)
				}
			}
		}
	}
}

// What was wrong once is not told again.
func TestMergeBehindWrong(t *testing.T) {
	order.Merge(at(1), at(2, 1))
	checkMerge(t, at(1, 2), at(1, 2))
}

func TestMergeOfVeryMany(t *testing.T) {
	l := make([]list, 1<<17)
	for i := range l {
		l[i] = at(uint64(len(l) - i))
	}
	got, e := order.Merge(l...)
	if len(got) != len(l) || e != api.OK {
		t.Fatal(len(got), e)
	}
	for i := range got {
		if got[i].At != uint64(i+1) {
			t.Fatalf("at %d there is %v", i, got[i])
		}
	}
	l[len(l)-1] = at(2, 1)
	if got, e := order.Merge(l...); len(got) != 0 || e != api.ErrOrder {
		t.Error(len(got), e)
	}
}

func TestLong(t *testing.T) {
	l := mixed(1<<17, 3)
	for i := range l {
		l[i].Seq = uint64(i)
	}
	s := order.Sort(l)
	if !order.Sorted(s) || order.Sorted(l) || len(s) != len(l) {
		t.Error("Sort of a long list")
	}
	m, e := order.Merge(s[:len(s)/3], s[len(s)/3:])
	if !slices.Equal(m, s) || e != api.OK {
		t.Error("Merge of two long lists", e)
	}
	if n, e := order.Find(s, s[70000]); n != 70000 || e != api.OK {
		t.Error("Find in a long list", n, e)
	}
}

// checkFind holds Find and Put against each timer of l.
func checkFind(t *testing.T, l list, x api.Timer) {
	t.Helper()
	want := 0
	for _, y := range l {
		if before(y, x) {
			want++
		}
	}
	if n, e := order.Find(l, x); n != want || e != api.OK {
		t.Errorf("Find(%v, %v): %d, %v; want %d", l, x, n, e, want)
	}
	p, e := order.Put(l, x)
	if want := ranked(append(slices.Clone(l), x)); !slices.Equal(p, want) || e != api.OK {
		t.Errorf("Put(%v, %v): %v, %v; want %v", l, x, p, e, want)
	}
}

func TestFindAndPut(t *testing.T) {
	for _, l := range sortedWords(letters(), 4) {
		for _, x := range others() {
			checkFind(t, l, x)
		}
	}
	for n := range 100 {
		l := ranked(mixed(n, uint64(n)))
		for _, x := range slices.Concat(l, others()) {
			checkFind(t, l, x)
		}
	}
}

// checkCut holds Cut against the At of each timer of l.
func checkCut(t *testing.T, l list, now uint64) {
	t.Helper()
	var due, rest list
	for _, x := range l {
		if x.At <= now {
			due = append(due, x)
		} else {
			rest = append(rest, x)
		}
	}
	a, b, e := order.Cut(l, now)
	if !slices.Equal(a, due) || !slices.Equal(b, rest) || e != api.OK {
		t.Errorf("Cut(%v, %d): %v, %v, %v; want %v, %v", l, now, a, b, e, due, rest)
	}
}

// Up to 0, up to never, and up to all around which a timer is due.
func TestCut(t *testing.T) {
	for _, l := range sortedWords(letters(), 4) {
		for _, now := range []uint64{0, 1, 2, 3, 4, 5, 1<<63 - 1, 1 << 63, api.Never - 1, api.Never} {
			checkCut(t, l, now)
		}
	}
	for n := range 100 {
		l := ranked(mixed(n, uint64(n)))
		for now := range uint64(18) {
			checkCut(t, l, now)
		}
		checkCut(t, l, api.Never)
	}
	all := at(7, 7, 7)
	checkCut(t, all, 6)
	checkCut(t, all, 7)
	checkCut(t, at(0, 0, 1), 0)
	checkCut(t, at(api.Never-1, api.Never, api.Never), api.Never-1)
	checkCut(t, at(api.Never, api.Never), api.Never)
}

// Beside ErrOrder all else is nought, whatever is asked of a list.
func TestNotSorted(t *testing.T) {
	for _, l := range words(letters(), 4) {
		if inOrder(l) {
			continue
		}
		if m, e := order.Merge(l); len(m) != 0 || e != api.ErrOrder {
			t.Errorf("Merge(%v): %v, %v", l, m, e)
		}
		for _, x := range others() {
			if n, e := order.Find(l, x); n != 0 || e != api.ErrOrder {
				t.Errorf("Find(%v, %v): %d, %v", l, x, n, e)
			}
			if p, e := order.Put(l, x); len(p) != 0 || e != api.ErrOrder {
				t.Errorf("Put(%v, %v): %v, %v", l, x, p, e)
			}
			if a, b, e := order.Cut(l, x.At); len(a) != 0 || len(b) != 0 || e != api.ErrOrder {
				t.Errorf("Cut(%v, %d): %v, %v, %v", l, x.At, a, b, e)
			}
		}
	}
}

// mark is what stands in the room behind a list's end.
var mark = api.Timer{At: 77, Seq: 77, Place: 77}

// roomy is the list, with room behind its end.
func roomy(l list) list {
	out := make(list, 0, len(l)+5)
	out = append(out, l...)
	return append(out, mark, mark, mark, mark, mark)[:len(l)]
}

// whole is the list with what is in its room.
func whole(l list) list { return l[:cap(l)] }

// spoil writes over all that a list can reach, and behind its end.
func spoil(l list) {
	for i := range whole(l) {
		whole(l)[i] = api.Timer{At: 99, Seq: 99, Place: 99}
	}
	_ = append(l, api.Timer{At: 98}, api.Timer{At: 97})
}

// checkApart calls with arguments that have room, and looks whether one of
// those, or one of the answers, is changed when another one is spoilt.
func checkApart(t *testing.T, name string, args []list, call func(args []list) []list) {
	t.Helper()
	given := make([]list, len(args))
	for i := range args {
		given[i] = roomy(args[i])
	}
	unchanged := func(when string) {
		t.Helper()
		for i := range args {
			if !slices.Equal(whole(given[i]), whole(roomy(args[i]))) || len(given[i]) != len(args[i]) {
				t.Errorf("%s of %v: %s the argument %d is %v", name, args, when, i, whole(given[i]))
			}
		}
	}
	first := call(given)
	unchanged("behind the call")
	answers := append(first, call(given)...)
	unchanged("behind the second call")
	was := make([]list, len(answers))
	for i := range answers {
		was[i] = slices.Clone(answers[i])
	}
	for i := range answers {
		spoil(answers[i])
		unchanged("behind a spoilt answer")
		for k := i + 1; k < len(answers); k++ {
			if !slices.Equal(answers[k], was[k]) {
				t.Errorf("%s of %v: the answers %d and %d share memory", name, args, i, k)
			}
		}
	}
	answers = call(given)
	for i := range given {
		spoil(given[i])
	}
	for i := range answers {
		if !slices.Equal(answers[i], was[i]) {
			t.Errorf("%s of %v: the answer %d shares memory with an argument", name, args, i)
		}
	}
}

func mergeCall(args []list) []list {
	heads := slices.Clone(args)
	m, _ := order.Merge(heads...)
	for i := range args {
		// The lists that are handed in are not turned, shortened or replaced.
		if len(heads[i]) != len(args[i]) || cap(heads[i]) != cap(args[i]) || cap(args[i]) > 0 && &whole(heads[i])[0] != &whole(args[i])[0] {
			panic("another list stands in the lists that were handed in")
		}
	}
	return []list{m}
}

func TestNothingIsShared(t *testing.T) {
	sortCall := func(args []list) []list { return []list{order.Sort(args[0])} }
	sortedCall := func(args []list) []list { order.Sorted(args[0]); return nil }
	for _, l := range words(letters()[:5], 3) {
		checkApart(t, "Sort", []list{l}, sortCall)
		checkApart(t, "Sorted", []list{l}, sortedCall)
		checkApart(t, "Merge", []list{l}, mergeCall)
		checkApart(t, "Merge", []list{nil, l}, mergeCall)
		checkApart(t, "Merge", []list{l, nil}, mergeCall)
		checkApart(t, "Merge", []list{nil, l, nil}, mergeCall)
		checkApart(t, "Merge", []list{at(1), l, at(2, 9), at(3)}, mergeCall)
		for _, x := range others() {
			checkApart(t, "Find", []list{l}, func(args []list) []list { order.Find(args[0], x); return nil })
			checkApart(t, "Put", []list{l}, func(args []list) []list {
				p, _ := order.Put(args[0], x)
				return []list{p}
			})
			checkApart(t, "Cut", []list{l}, func(args []list) []list {
				a, b, _ := order.Cut(args[0], x.At)
				return []list{a, b}
			})
		}
	}
}

// One list may be handed in twice, or a piece of another one.
func TestMergeOfPieces(t *testing.T) {
	l := at(1, 2, 3, 4)
	m, e := order.Merge(l, l[1:3], l[:2], l[4:])
	if !slices.Equal(m, at(1, 1, 2, 2, 2, 3, 3, 4)) || e != api.OK || !slices.Equal(l, at(1, 2, 3, 4)) {
		t.Error(m, e, l)
	}
}
