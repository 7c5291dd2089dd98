package chain_test

import (
	"math"
	"slices"
	"strconv"
	"strings"
	"testing"

	"compline/api"
	"compline/chain"
)

// made are chains that are asked for with right arguments.
func made(t *testing.T, places, lists int) *chain.Chains {
	t.Helper()
	c, e := chain.New(places, lists)
	if e != api.OK || c == nil {
		t.Fatalf("New(%d, %d): %v, %v", places, lists, c, e)
	}
	return c
}

// book is what stands in each list, as a plain list of its places.
type book struct {
	places int
	lists  [][]int
}

func newBook(places, lists int) *book { return &book{places, make([][]int, lists)} }

func (b *book) copied() *book {
	n := newBook(b.places, len(b.lists))
	for i, l := range b.lists {
		n.lists[i] = append([]int(nil), l...)
	}
	return n
}

// text tells two books apart.
func (b *book) text() string {
	var w strings.Builder
	for _, l := range b.lists {
		for _, p := range l {
			w.WriteString(strconv.Itoa(p) + " ")
		}
		w.WriteString("/")
	}
	return w.String()
}

// where is the list that a place is in, and how far from its beginning.
func (b *book) where(place int) (int, int, bool) {
	for i, l := range b.lists {
		if at := slices.Index(l, place); at >= 0 {
			return i, at, true
		}
	}
	return 0, 0, false
}

func (b *book) isPlace(i int) bool { return 0 <= i && i < b.places }

func (b *book) isList(i int) bool { return 0 <= i && i < len(b.lists) }

// of are those of a list, none if there is no such list.
func (b *book) of(list int) []int {
	if !b.isList(list) {
		return nil
	}
	return b.lists[list]
}

// beside is the one so many behind a place in its list.
func (b *book) beside(place, by int) (int, bool) {
	list, at, ok := b.where(place)
	if !ok || at+by < 0 || at+by >= len(b.lists[list]) {
		return 0, false
	}
	return b.lists[list][at+by], true
}

// The calls that change something.
const (
	toAppend = iota
	toInsert
	toDrop
	toSplice
)

// call is one of them, with its arguments.
type call struct{ what, x, y int }

// told is what the chapter's sentences say of a call, in their order, and what
// comes of it in the book.
func (b *book) told(x call) api.Errno {
	switch x.what {
	case toAppend:
		return b.append(x.x, x.y)
	case toInsert:
		return b.insert(x.x, x.y)
	case toDrop:
		return b.drop(x.x)
	}
	return b.splice(x.x, x.y)
}

func (b *book) append(list, place int) api.Errno {
	if !b.isList(list) || !b.isPlace(place) {
		return api.ErrArg
	}
	if _, _, in := b.where(place); in {
		return api.ErrTwice
	}
	b.lists[list] = append(b.lists[list], place)
	return api.OK
}

func (b *book) insert(place, before int) api.Errno {
	if !b.isPlace(place) || !b.isPlace(before) {
		return api.ErrArg
	}
	if _, _, in := b.where(place); in {
		return api.ErrTwice
	}
	list, at, in := b.where(before)
	if !in {
		return api.ErrNone
	}
	b.lists[list] = slices.Insert(b.lists[list], at, place)
	return api.OK
}

func (b *book) drop(place int) api.Errno {
	if !b.isPlace(place) {
		return api.ErrArg
	}
	list, at, in := b.where(place)
	if !in {
		return api.ErrNone
	}
	b.lists[list] = slices.Delete(b.lists[list], at, at+1)
	return api.OK
}

func (b *book) splice(to, from int) api.Errno {
	if !b.isList(to) || !b.isList(from) {
		return api.ErrArg
	}
	if to != from {
		b.lists[to] = append(b.lists[to], b.lists[from]...)
		b.lists[from] = nil
	}
	return api.OK
}

// asked is what chains answer to a call.
func asked(c *chain.Chains, x call) api.Errno {
	switch x.what {
	case toAppend:
		return c.Append(x.x, x.y)
	case toInsert:
		return c.Insert(x.x, x.y)
	case toDrop:
		return c.Drop(x.x)
	}
	return c.Splice(x.x, x.y)
}

// do does it with both, and holds the answers against each other.
func (b *book) do(t *testing.T, c *chain.Chains, x call) api.Errno {
	t.Helper()
	was := b.text()
	want := b.told(x)
	if e := asked(c, x); e != want {
		t.Fatalf("of %s, %v: %v; want %v", was, x, e, want)
	}
	return want
}

// check holds all that c tells against the book, of all lists and places, and
// of some that there are not.
func (b *book) check(t *testing.T, c *chain.Chains) {
	t.Helper()
	for _, list := range farAndNear(len(b.lists)) {
		all := b.of(list)
		if got := c.All(list); !slices.Equal(got, all) {
			t.Fatalf("All(%d): %v; want %v", list, got, all)
		}
		first, last := 0, 0
		if len(all) > 0 {
			first, last = all[0], all[len(all)-1]
		}
		b.same(t, "First", list, c.First, first, len(all) > 0)
		b.same(t, "Last", list, c.Last, last, len(all) > 0)
		b.checkWalks(t, c, list, all)
	}
	for _, place := range farAndNear(b.places) {
		next, is := b.beside(place, 1)
		b.same(t, "Next", place, c.Next, next, is)
		prev, is := b.beside(place, -1)
		b.same(t, "Prev", place, c.Prev, prev, is)
		which, _, in := b.where(place)
		b.same(t, "Which", place, c.Which, which, in)
	}
}

// same holds one answer against what is wanted.
func (b *book) same(t *testing.T, name string, of int, ask func(int) (int, bool), want int, is bool) {
	t.Helper()
	if got, ok := ask(of); got != want || ok != is {
		t.Fatalf("of %s, %s(%d): %d, %v; want %d, %v", b.text(), name, of, got, ok, want, is)
	}
}

// checkWalks goes through a list by Next, and from its end on by Prev: the same
// places are met, in the other order.
func (b *book) checkWalks(t *testing.T, c *chain.Chains, list int, all []int) {
	t.Helper()
	forth := met(c.First, c.Next, list, b.places)
	back := met(c.Last, c.Prev, list, b.places)
	slices.Reverse(back)
	if !slices.Equal(forth, all) || !slices.Equal(back, all) {
		t.Fatalf("list %d: by Next %v, by Prev %v (turned round); want %v", list, forth, back, all)
	}
}

// met are the places that one meets, one more than there are at most.
func met(begin, on func(int) (int, bool), list, places int) []int {
	var l []int
	for p, ok := begin(list); ok && len(l) <= places; p, ok = on(p) {
		l = append(l, p)
	}
	return l
}

// farAndNear are the numbers from -2 to one beyond n, and the farthest ones.
func farAndNear(n int) []int {
	l := []int{math.MinInt, math.MinInt + 1, -1 << 32}
	for i := -2; i <= n+1; i++ {
		l = append(l, i)
	}
	return append(l, n+api.MaxPlaces, 1<<32, 1<<32+1, math.MaxInt-1, math.MaxInt)
}

// calls are all calls, with all arguments from one below what there is to two
// beyond it: where places and lists stand in one row, those are each other's.
func (b *book) calls() []call {
	var l []call
	for list := -1; list < len(b.lists)+2; list++ {
		for place := -1; place < b.places+2; place++ {
			l = append(l, call{toAppend, list, place})
		}
		for from := -1; from < len(b.lists)+2; from++ {
			l = append(l, call{toSplice, list, from})
		}
	}
	for place := -1; place < b.places+2; place++ {
		l = append(l, call{toDrop, place, 0})
		for before := -1; before < b.places+2; before++ {
			l = append(l, call{toInsert, place, before})
		}
	}
	return l
}

// replayed are chains, and a book, with which all of way was done.
func replayed(t *testing.T, places, lists int, way []call) (*book, *chain.Chains) {
	t.Helper()
	b, c := newBook(places, lists), made(t, places, lists)
	for _, x := range way {
		b.do(t, c, x)
	}
	return b, c
}

func TestExamples(t *testing.T) {
	c := made(t, 6, 2)
	for _, x := range []call{{toAppend, 0, 3}, {toAppend, 0, 5}, {toInsert, 4, 5}} {
		if e := asked(c, x); e != api.OK {
			t.Fatal(x, e)
		}
	}
	if l := c.All(0); !slices.Equal(l, []int{3, 4, 5}) {
		t.Error(l)
	}
	if p, ok := c.Next(4); p != 5 || !ok {
		t.Error(p, ok)
	}
	if p, ok := c.Prev(3); p != 0 || ok {
		t.Error(p, ok)
	}
	if e := c.Splice(1, 0); e != api.OK || len(c.All(0)) != 0 || !slices.Equal(c.All(1), []int{3, 4, 5}) {
		t.Error(e, c.All(0), c.All(1))
	}
	if list, ok := c.Which(4); list != 1 || !ok {
		t.Error(list, ok)
	}
}

func TestNew(t *testing.T) {
	numbers := []int{math.MinInt, -1 << 32, -1024, -1, 0, 1, 2, 1023, 1024, 1025, 2048, 1 << 32, 1<<32 + 1, math.MaxInt}
	for _, places := range numbers {
		for _, lists := range numbers {
			want := api.OK
			if places < 0 || places > 1024 || lists < 0 || lists > 1024 {
				want = api.ErrArg
			}
			c, e := chain.New(places, lists)
			if e != want || (c == nil) != (want != api.OK) {
				t.Errorf("New(%d, %d): %v, %v; want %v", places, lists, c, e, want)
			}
			if c != nil {
				newBook(places, lists).check(t, c)
			}
		}
	}
}

// All that may stand in small chains, and each call there, right or wrong: of
// what is refused nothing comes.
func TestAllStates(t *testing.T) {
	for _, x := range []struct{ places, lists int }{{0, 0}, {0, 2}, {2, 0}, {1, 1}, {1, 3}, {3, 1}, {3, 2}, {2, 3}, {4, 2}} {
		seen := map[string]bool{}
		ways := [][]call{nil}
		for len(ways) > 0 {
			way := ways[0]
			ways = ways[1:]
			b, _ := replayed(t, x.places, x.lists, way)
			if seen[b.text()] {
				continue
			}
			seen[b.text()] = true
			for _, y := range b.calls() {
				b, c := replayed(t, x.places, x.lists, way)
				e := b.do(t, c, y)
				b.check(t, c)
				if e == api.OK {
					ways = append(ways, append(slices.Clone(way), y))
				}
			}
		}
		t.Logf("%d places, %d lists: %d states", x.places, x.lists, len(seen))
	}
}

// All ways that a few calls may go: what is told does not hang on the way on
// which it came to stand so.
func TestAllWays(t *testing.T) {
	var further func(places, lists, calls int, way []call)
	n := 0
	further = func(places, lists, calls int, way []call) {
		n++
		b, c := replayed(t, places, lists, way)
		b.check(t, c)
		if calls == 0 {
			return
		}
		for _, x := range b.calls() {
			if b.copied().told(x) == api.OK {
				further(places, lists, calls-1, append(slices.Clone(way), x))
			}
		}
	}
	further(2, 2, 5, nil)
	further(3, 1, 5, nil)
	further(3, 2, 4, nil)
	t.Logf("%d ways", n)
}

// Long ways, in no order, of more places and lists.
func TestLongWays(t *testing.T) {
	for _, x := range []struct{ places, lists, calls int }{{5, 1, 300}, {9, 4, 400}, {40, 7, 600}, {12, 30, 400}} {
		for seed := range uint64(4) {
			b, c := newBook(x.places, x.lists), made(t, x.places, x.lists)
			dice := seed
			roll := func(n int) int {
				dice = dice*6364136223846793005 + 1442695040888963407
				return int(dice>>33) % n
			}
			for range x.calls {
				// A splice empties a list: more of them would leave but one.
				what := []int{toAppend, toAppend, toAppend, toInsert, toInsert, toInsert, toDrop, toDrop, toDrop, toSplice}[roll(10)]
				y := call{what, roll(x.places), roll(x.places)}
				switch what {
				case toAppend:
					y.x = roll(x.lists)
				case toSplice:
					y.x, y.y = roll(x.lists), roll(x.lists)
				}
				b.do(t, c, y)
				b.check(t, c)
			}
		}
	}
}

// What is wrong is told in the order of the call's sentences.
func TestFirstError(t *testing.T) {
	c := made(t, 4, 2)
	for _, x := range []call{{toAppend, 0, 1}, {toAppend, 1, 2}} {
		if e := asked(c, x); e != api.OK {
			t.Fatal(x, e)
		}
	}
	for _, far := range []int{math.MinInt, -1 << 32, -1, 4, 5, 6, 1024, 1 << 32, 1<<32 + 1, math.MaxInt} {
		for _, x := range []struct {
			of   call
			want api.Errno
		}{
			{call{toAppend, 0, far}, api.ErrArg},
			{call{toAppend, far, 0}, api.ErrArg},
			{call{toAppend, far, 1}, api.ErrArg},
			{call{toAppend, far, far}, api.ErrArg},
			{call{toAppend, 0, 1}, api.ErrTwice},
			{call{toAppend, 1, 1}, api.ErrTwice},
			{call{toInsert, far, 1}, api.ErrArg},
			{call{toInsert, far, 0}, api.ErrArg},
			{call{toInsert, 0, far}, api.ErrArg},
			{call{toInsert, 1, far}, api.ErrArg},
			{call{toInsert, far, far}, api.ErrArg},
			{call{toInsert, 1, 0}, api.ErrTwice},
			{call{toInsert, 1, 1}, api.ErrTwice},
			{call{toInsert, 1, 2}, api.ErrTwice},
			{call{toInsert, 0, 0}, api.ErrNone},
			{call{toInsert, 0, 3}, api.ErrNone},
			{call{toDrop, far, 0}, api.ErrArg},
			{call{toDrop, 0, 0}, api.ErrNone},
			{call{toSplice, 0, far}, api.ErrArg},
			{call{toSplice, far, 0}, api.ErrArg},
			{call{toSplice, far, far}, api.ErrArg},
		} {
			if e := asked(c, x.of); e != x.want {
				t.Errorf("%v: %v; want %v", x.of, e, x.want)
			}
			(&book{4, [][]int{{1}, {2}}}).check(t, c)
		}
	}
}

// What is put in and dropped leaves all as it was, wherever it stood.
func TestPutAndDropped(t *testing.T) {
	b, c := replayed(t, 6, 3, []call{{toAppend, 1, 4}, {toAppend, 1, 0}, {toAppend, 1, 2}, {toAppend, 0, 5}})
	for _, place := range []int{1, 3} {
		for _, x := range []call{{toAppend, 0, place}, {toAppend, 1, place}, {toAppend, 2, place}, {toInsert, place, 4}, {toInsert, place, 0}, {toInsert, place, 2}, {toInsert, place, 5}} {
			was := b.copied()
			if e := b.do(t, c, x); e != api.OK {
				t.Fatal(x, e)
			}
			b.check(t, c)
			if e := b.do(t, c, call{toDrop, place, 0}); e != api.OK {
				t.Fatal(x, e)
			}
			was.check(t, c)
			if list, ok := c.Which(place); list != 0 || ok {
				t.Error(x, list, ok)
			}
			if e := b.do(t, c, call{toDrop, place, 0}); e != api.ErrNone {
				t.Error(x, e)
			}
		}
	}
}

// The most places and lists that there may be.
func TestMost(t *testing.T) {
	const most = api.MaxPlaces
	b, c := newBook(most, most), made(t, most, most)
	for i := range most {
		b.do(t, c, call{toAppend, most - 1 - i, i})
	}
	b.check(t, c)
	for list := most - 2; list >= 0; list-- {
		b.do(t, c, call{toSplice, most - 1, list})
	}
	all := c.All(most - 1)
	if len(all) != most || !slices.IsSorted(all) {
		t.Error(len(all))
	}
	b.do(t, c, call{toSplice, most - 1, most - 1})
	b.do(t, c, call{toSplice, 0, most - 1})
	b.check(t, c)
	for i := range most {
		b.do(t, c, call{toDrop, i * 5 % most, 0})
	}
	b.check(t, c)
	b.do(t, c, call{toAppend, most - 1, 0})
	for i := range most - 1 {
		b.do(t, c, call{toInsert, i + 1, i})
	}
	b.check(t, c)
}

// spoiled has its elements, and what is behind them in its memory, spoiled.
func spoiled(l []int) {
	l = l[:cap(l)]
	for i := range l {
		l[i] = 77
	}
}

// What is told is new memory: it goes on neither with the chains, nor with what
// they tell another time.
func TestNothingShared(t *testing.T) {
	b, c := replayed(t, 9, 3, []call{{toAppend, 0, 8}, {toAppend, 0, 1}, {toAppend, 0, 4}, {toAppend, 0, 3}, {toAppend, 0, 6}, {toAppend, 1, 2}})
	one, other, second := c.All(0), c.All(0), c.All(1)
	spoiled(one)
	if !slices.Equal(other, []int{8, 1, 4, 3, 6}) || !slices.Equal(second, []int{2}) {
		t.Error(other, second)
	}
	b.check(t, c)
	for _, x := range []call{{toDrop, 1, 0}, {toInsert, 1, 8}, {toAppend, 0, 0}, {toSplice, 1, 0}, {toSplice, 0, 1}} {
		b.do(t, c, x)
		if !slices.Equal(other, []int{8, 1, 4, 3, 6}) || !slices.Equal(second, []int{2}) {
			t.Error(x, other, second)
		}
	}
	empty := c.All(1)
	b.do(t, c, call{toSplice, 1, 0})
	for range 9 {
		empty = append(empty, 77)
	}
	b.check(t, c)
}

// Two chains go their own ways.
func TestChainsApart(t *testing.T) {
	way := []call{{toAppend, 0, 2}, {toAppend, 0, 0}, {toAppend, 1, 1}}
	a, one := replayed(t, 4, 2, way)
	b, other := replayed(t, 4, 2, way)
	for _, x := range []call{{toDrop, 2, 0}, {toInsert, 3, 0}, {toSplice, 1, 0}, {toAppend, 0, 2}} {
		a.do(t, one, x)
		a.check(t, one)
		b.check(t, other)
	}
}
