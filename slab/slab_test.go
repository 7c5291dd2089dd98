package slab_test

import (
	"math"
	"slices"
	"testing"

	"compline/api"
	"compline/slab"
)

func h(place, gen int) api.Handle { return api.Handle{Place: place, Gen: gen} }

// made is a slab that is asked for with right arguments.
func made(t *testing.T, places, gens int) *slab.Slab {
	t.Helper()
	s, e := slab.New(places, gens)
	if e != api.OK || s == nil {
		t.Fatalf("New(%d, %d): %v, %v", places, gens, s, e)
	}
	return s
}

// event is a handle that was taken, or freed.
type event struct {
	handle api.Handle
	freed  bool
}

// book is what was done with a slab, from its beginning on, and nothing else:
// each answer is counted out anew, as the chapter's words say it.
type book struct {
	places, gens int
	events       []event
}

func (b *book) times(place int) int {
	n := 0
	for _, x := range b.events {
		if x.handle.Place == place && !x.freed {
			n++
		}
	}
	return n
}

func (b *book) alive(x api.Handle) bool {
	return slices.Contains(b.events, event{x, false}) && !slices.Contains(b.events, event{x, true})
}

// living are the handles that are alive, in the order in which they were taken.
func (b *book) living() []api.Handle {
	var l []api.Handle
	for _, x := range b.events {
		if b.alive(x.handle) && !x.freed {
			l = append(l, x.handle)
		}
	}
	return l
}

// at is the one alive at a place.
func (b *book) at(place int) (api.Handle, bool) {
	for _, x := range b.living() {
		if x.Place == place {
			return x, true
		}
	}
	return api.Handle{}, false
}

func (b *book) worn(place int) bool { return slices.Contains(b.events, event{h(place, b.gens), true}) }

// idle are the places that were freed, are not worn and not alive, in the order
// in which they were freed last.
func (b *book) idle() []int {
	var l []int
	for _, x := range b.events {
		i := x.handle.Place
		if x.freed && x.handle.Gen == b.times(i) && !b.worn(i) {
			l = append(l, i)
		}
	}
	return l
}

func (b *book) used() []int {
	var l []int
	for i := range b.places {
		if n := b.times(i); n > 0 {
			l = append(l, n)
		}
	}
	return l
}

// wanted is what Take must answer.
func (b *book) wanted() (api.Handle, api.Errno) {
	if l := b.idle(); len(l) > 0 {
		i := l[len(l)-1]
		return h(i, b.times(i)+1), api.OK
	}
	for i := range b.places {
		if b.times(i) == 0 {
			return h(i, 1), api.OK
		}
	}
	return api.Handle{}, api.ErrFull
}

// take takes of s, and holds the answer against the book.
func (b *book) take(t *testing.T, s *slab.Slab) {
	t.Helper()
	want, wrong := b.wanted()
	x, e := s.Take()
	if x != want || e != wrong {
		t.Fatalf("behind %v, Take: %v, %v; want %v, %v", b.events, x, e, want, wrong)
	}
	if e == api.OK {
		b.events = append(b.events, event{x, false})
	}
}

// free frees of s, and holds the answer against the book.
func (b *book) free(t *testing.T, s *slab.Slab, x api.Handle) {
	t.Helper()
	want := api.ErrNone
	if b.alive(x) {
		want = api.OK
	}
	if e := s.Free(x); e != want {
		t.Fatalf("behind %v, Free(%v): %v; want %v", b.events, x, e, want)
	}
	if want == api.OK {
		b.events = append(b.events, event{x, true})
	}
}

// check holds all that s tells, but by Take and Free, against the book.
func (b *book) check(t *testing.T, s *slab.Slab) {
	t.Helper()
	used, free := s.Image()
	if !slices.Equal(used, b.used()) || !slices.Equal(free, b.idle()) {
		t.Fatalf("behind %v, Image: %v, %v; want %v, %v", b.events, used, free, b.used(), b.idle())
	}
	worn, never := 0, 0
	for i := range b.places {
		if b.worn(i) {
			worn++
		}
		if b.times(i) == 0 {
			never++
		}
	}
	alive, left := len(b.living()), len(b.idle())+never
	if s.Len() != alive || s.Left() != left || s.Worn() != worn {
		t.Fatalf("behind %v: %d alive, %d left, %d worn; want %d, %d, %d", b.events, s.Len(), s.Left(), s.Worn(), alive, left, worn)
	}
	if s.Len()+s.Left()+s.Worn() != b.places {
		t.Fatalf("behind %v: %d alive, %d left, %d worn, of %d places", b.events, s.Len(), s.Left(), s.Worn(), b.places)
	}
	b.checkPlaces(t, s)
}

// checkPlaces holds At and Alive against the book, of each place and its gens,
// and of those that there are not.
func (b *book) checkPlaces(t *testing.T, s *slab.Slab) {
	t.Helper()
	for _, i := range farAndNear(b.places) {
		want, is := b.at(i)
		if x, ok := s.At(i); x != want || ok != is {
			t.Fatalf("behind %v, At(%d): %v, %v; want %v, %v", b.events, i, x, ok, want, is)
		}
		for _, gen := range b.gensAt(i) {
			if x := h(i, gen); s.Alive(x) != b.alive(x) {
				t.Fatalf("behind %v, Alive(%v): %v", b.events, x, s.Alive(x))
			}
		}
	}
}

// gensAt are all gens of a place, if they are few, else those around the last
// one that was taken, and around the ends.
func (b *book) gensAt(place int) []int {
	n := b.times(place)
	return append(farAndNear(min(b.gens, 4)), n-1, n, n+1, b.gens-1, b.gens, b.gens+1)
}

// farAndNear are the numbers from -1 to one beyond n, and the farthest ones.
func farAndNear(n int) []int {
	l := []int{math.MinInt, math.MinInt + 1, -1 << 32}
	for i := -1; i <= n+1; i++ {
		l = append(l, i)
	}
	return append(l, api.MaxPlaces, 1<<32, 1<<32+1, math.MaxInt-1, math.MaxInt)
}

// replayed is a slab with which the same was done as the book says.
func (b *book) replayed(t *testing.T) *slab.Slab {
	t.Helper()
	s := made(t, b.places, b.gens)
	again := &book{places: b.places, gens: b.gens}
	for _, x := range b.events {
		if x.freed {
			again.free(t, s, x.handle)
		} else {
			again.take(t, s)
		}
	}
	if !slices.Equal(again.events, b.events) {
		t.Fatalf("the same calls told %v; want %v", again.events, b.events)
	}
	return s
}

// resumed is the slab that is made of the image of s.
func (b *book) resumed(t *testing.T, s *slab.Slab) *slab.Slab {
	t.Helper()
	used, free := s.Image()
	next, e := slab.Of(b.places, b.gens, used, free, b.living())
	if e != api.OK || next == nil {
		t.Fatalf("behind %v, Of(%d, %d, %v, %v, %v): %v, %v", b.events, b.places, b.gens, used, free, b.living(), next, e)
	}
	return next
}

// emptied frees and takes all there is, till all places are worn.
func (b *book) emptied(t *testing.T, s *slab.Slab) {
	t.Helper()
	end := &book{b.places, b.gens, slices.Clone(b.events)}
	for s.Worn() < b.places {
		for s.Left() > 0 {
			end.take(t, s)
		}
		end.take(t, s)
		for _, x := range end.living() {
			end.free(t, s, x)
			end.check(t, s)
		}
	}
	end.take(t, s)
}

// explore goes all ways that so many calls may go. Of what is refused in each
// of them it asks, too: nothing must come of it.
func explore(t *testing.T, b *book, calls int) int {
	t.Helper()
	s := b.replayed(t)
	b.check(t, s)
	for _, i := range farAndNear(b.places) {
		for _, gen := range b.gensAt(i) {
			if x := h(i, gen); !b.alive(x) {
				b.free(t, s, x)
			}
		}
	}
	b.check(t, s)
	next := b.resumed(t, s)
	b.check(t, next)
	b.emptied(t, next)
	b.emptied(t, s)
	states := 1
	if calls == 0 {
		return states
	}
	ways := b.living()
	for i := range len(ways) + 1 {
		further := &book{b.places, b.gens, slices.Clone(b.events)}
		if s := b.replayed(t); i < len(ways) {
			further.free(t, s, ways[i])
		} else {
			further.take(t, s)
			further.check(t, s)
		}
		if len(further.events) > len(b.events) {
			states += explore(t, further, calls-1)
		}
	}
	return states
}

func TestExamples(t *testing.T) {
	s := made(t, 2, 2)
	take := func(want api.Handle, wrong api.Errno) {
		t.Helper()
		if x, e := s.Take(); x != want || e != wrong {
			t.Errorf("Take: %v, %v; want %v, %v", x, e, want, wrong)
		}
	}
	free := func(x api.Handle, want api.Errno) {
		t.Helper()
		if e := s.Free(x); e != want {
			t.Errorf("Free(%v): %v; want %v", x, e, want)
		}
	}
	take(h(0, 1), api.OK)
	take(h(1, 1), api.OK)
	free(h(0, 1), api.OK)
	free(h(1, 1), api.OK)
	take(h(1, 2), api.OK)
	take(h(0, 2), api.OK)
	take(api.Handle{}, api.ErrFull)
	free(h(0, 1), api.ErrNone)
	free(h(1, 2), api.OK)
	free(h(0, 2), api.OK)
	if s.Worn() != 2 || s.Left() != 0 || s.Len() != 0 {
		t.Error(s.Worn(), s.Left(), s.Len())
	}
	take(api.Handle{}, api.ErrFull)
	free(h(0, 2), api.ErrNone)
	if used, free := s.Image(); !slices.Equal(used, []int{2, 2}) || len(free) != 0 {
		t.Error(used, free)
	}
}

func TestNew(t *testing.T) {
	numbers := []int{math.MinInt, -1 << 32, -65536, -1024, -1, 0, 1, 2, 1023, 1024, 1025, 65534, 65535, 65536, 1 << 32, 1<<32 + 1, math.MaxInt}
	for _, places := range numbers {
		for _, gens := range numbers {
			want := api.OK
			if places < 0 || places > 1024 || gens < 1 || gens > 65535 {
				want = api.ErrArg
			}
			s, e := slab.New(places, gens)
			if e != want || (s == nil) != (want != api.OK) {
				t.Errorf("New(%d, %d): %v, %v; want %v", places, gens, s, e, want)
			}
			if s == nil {
				continue
			}
			used, free := s.Image()
			if s.Len() != 0 || s.Left() != places || s.Worn() != 0 || len(used) != 0 || len(free) != 0 {
				t.Errorf("New(%d, %d): %d alive, %d left, %d worn, %v, %v", places, gens, s.Len(), s.Left(), s.Worn(), used, free)
			}
		}
	}
}

// All that can be done with small slabs, in whatever order.
func TestAllWays(t *testing.T) {
	for _, x := range []struct{ places, gens, calls int }{
		{0, 1, 3}, {0, 65535, 3}, {1, 1, 4}, {1, 2, 6}, {1, 4, 10}, {2, 1, 6}, {2, 2, 8}, {2, 3, 8}, {3, 1, 7}, {3, 2, 7}, {4, 3, 6},
	} {
		n := explore(t, &book{places: x.places, gens: x.gens}, x.calls)
		t.Logf("%d places, %d gens: %d states", x.places, x.gens, n)
	}
}

// A long way, in no order; the slab is now and then made anew of its image, and
// goes on as if it had not been.
func TestLongWays(t *testing.T) {
	for _, x := range []struct{ places, gens, calls int }{{1, 90, 200}, {5, 9, 120}, {7, 65535, 200}, {40, 3, 200}} {
		for seed := range uint64(3) {
			b := &book{places: x.places, gens: x.gens}
			s := made(t, x.places, x.gens)
			dice := seed
			for range x.calls {
				dice = dice*6364136223846793005 + 1442695040888963407
				roll := int(dice >> 40)
				living := b.living()
				if len(living) > 0 && roll%5 < 2 {
					b.free(t, s, living[roll/5%len(living)])
				} else {
					b.take(t, s)
				}
				if roll/64%7 == 0 {
					s = b.resumed(t, s)
				}
				b.check(t, s)
			}
		}
	}
}

// A place that wears out behind the most gens there may be.
func TestMostGens(t *testing.T) {
	s := made(t, 1, api.MaxGen)
	for gen := 1; gen <= api.MaxGen; gen++ {
		if x, e := s.Take(); x != h(0, gen) || e != api.OK {
			t.Fatal(gen, x, e)
		}
		if s.Alive(h(0, gen-1)) || s.Free(h(0, gen-1)) != api.ErrNone || s.Len() != 1 || s.Left() != 0 || s.Worn() != 0 {
			t.Fatal(gen, s.Len(), s.Left(), s.Worn())
		}
		if e := s.Free(h(0, gen)); e != api.OK {
			t.Fatal(gen, e)
		}
	}
	if x, e := s.Take(); x != (api.Handle{}) || e != api.ErrFull || s.Worn() != 1 || s.Left() != 0 {
		t.Error(x, e, s.Worn(), s.Left())
	}
	if used, free := s.Image(); !slices.Equal(used, []int{api.MaxGen}) || len(free) != 0 {
		t.Error(used, free)
	}
}

// The most places there may be: each is taken once, the least one first, and
// then those that were freed, the last one first.
func TestMostPlaces(t *testing.T) {
	s := made(t, api.MaxPlaces, 2)
	taken := map[api.Handle]bool{}
	take := func(want api.Handle) {
		t.Helper()
		if x, e := s.Take(); x != want || e != api.OK || taken[x] {
			t.Fatal(x, e, want)
		}
		taken[want] = true
	}
	for i := range api.MaxPlaces {
		take(h(i, 1))
	}
	if x, e := s.Take(); x != (api.Handle{}) || e != api.ErrFull || s.Len() != api.MaxPlaces {
		t.Error(x, e, s.Len())
	}
	for i := range api.MaxPlaces {
		if e := s.Free(h(i*5%api.MaxPlaces, 1)); e != api.OK || s.Left() != i+1 {
			t.Fatal(i, e, s.Left())
		}
	}
	for i := range api.MaxPlaces {
		take(h((api.MaxPlaces-1-i)*5%api.MaxPlaces, 2))
	}
	for i := range api.MaxPlaces {
		if e := s.Free(h(i, 2)); e != api.OK || s.Worn() != i+1 || s.Left() != 0 {
			t.Fatal(i, e, s.Worn(), s.Left())
		}
	}
}

// lists are all lists of at most so many of these.
func lists[T any](of []T, most int) [][]T {
	all, last := [][]T{nil}, [][]T{nil}
	for range most {
		var longer [][]T
		for _, l := range last {
			for _, x := range of {
				longer = append(longer, append(slices.Clone(l), x))
			}
		}
		all, last = append(all, longer...), longer
	}
	return all
}

// count is how often it stands in l.
func count[T comparable](l []T, x T) int {
	n := 0
	for _, y := range l {
		if y == x {
			n++
		}
	}
	return n
}

// right tells whether it is an image, sentence by sentence.
func right(places, gens int, used, free []int, alive []api.Handle) bool {
	ok := len(used) <= places
	for _, n := range used {
		ok = ok && n >= 1 && n <= gens
	}
	for _, i := range free {
		ok = ok && i >= 0 && i < len(used) && count(free, i) == 1 && used[i] < gens
	}
	for _, x := range alive {
		ok = ok && x.Place >= 0 && x.Place < len(used) && x.Gen == used[x.Place] && count(alive, x) == 1 && count(free, x.Place) == 0
	}
	for i, n := range used {
		ok = ok && (count(free, i) > 0 || count(alive, h(i, n)) > 0 || n == gens)
	}
	return ok
}

// checkOf holds Of against right, and what it made against what it is made of.
func checkOf(t *testing.T, places, gens int, used, free []int, alive []api.Handle) bool {
	t.Helper()
	want := api.OK
	if !right(places, gens, used, free, alive) {
		want = api.ErrForm
	}
	s, e := slab.Of(places, gens, used, free, alive)
	if e != want || (s == nil) != (want != api.OK) {
		t.Fatalf("Of(%d, %d, %v, %v, %v): %v, %v; want %v", places, gens, used, free, alive, s, e, want)
	}
	if s == nil {
		return false
	}
	u, f := s.Image()
	if !slices.Equal(u, used) || !slices.Equal(f, free) || s.Len() != len(alive) {
		t.Fatalf("Of(%d, %d, %v, %v, %v): %v, %v, %d alive", places, gens, used, free, alive, u, f, s.Len())
	}
	if left := places - len(used) + len(free); s.Left() != left || s.Worn() != places-left-len(alive) {
		t.Fatalf("Of(%d, %d, %v, %v, %v): %d left, %d worn", places, gens, used, free, alive, s.Left(), s.Worn())
	}
	for i := -1; i <= places; i++ {
		for gen := -1; gen <= gens+1; gen++ {
			if s.Alive(h(i, gen)) != slices.Contains(alive, h(i, gen)) {
				t.Fatalf("Of(%d, %d, %v, %v, %v): Alive(%d, %d)", places, gens, used, free, alive, i, gen)
			}
		}
	}
	return true
}

func TestOfAllSmallOnes(t *testing.T) {
	var handles []api.Handle
	for i := -1; i <= 2; i++ {
		for gen := range 4 {
			handles = append(handles, h(i, gen))
		}
	}
	for _, x := range []struct{ places, gens int }{{0, 1}, {1, 1}, {1, 2}, {2, 1}, {2, 2}} {
		n := 0
		for _, used := range lists([]int{0, 1, 2, 3}, x.places+1) {
			for _, free := range lists([]int{-1, 0, 1, 2}, x.places+1) {
				for _, alive := range lists(handles, x.places) {
					if checkOf(t, x.places, x.gens, used, free, alive) {
						n++
					}
				}
			}
		}
		t.Logf("%d places, %d gens: %d images", x.places, x.gens, n)
	}
}

// Where the one part is right, and the other one is far beyond its limits.
func TestOfFarOnes(t *testing.T) {
	for _, x := range []int{math.MinInt, math.MinInt + 1, -1 << 32, -65535, -1, 0, 3, 4, 5, 65535, 1 << 32, 1<<32 + 1, math.MaxInt - 1, math.MaxInt} {
		checkOf(t, 5, 4, []int{1, x}, []int{0}, nil)
		checkOf(t, 5, 4, []int{1, x}, []int{0}, []api.Handle{h(1, x)})
		checkOf(t, 5, 4, []int{1, 4, 2}, []int{0, x}, []api.Handle{h(2, 2)})
		checkOf(t, 5, 4, []int{1, 4, 2}, []int{x, 0}, []api.Handle{h(2, 2)})
		checkOf(t, 5, 4, []int{1, 4, 2}, []int{0}, []api.Handle{h(2, 2), h(x, 1)})
		checkOf(t, 5, 4, []int{1, 4, 2}, []int{0}, []api.Handle{h(x, 4), h(2, 2)})
		checkOf(t, 5, 4, []int{1, 4, 2}, []int{0}, []api.Handle{h(2, x)})
		checkOf(t, 5, 4, []int{1, 4, 2}, []int{0}, []api.Handle{h(1, x), h(2, 2)})
	}
}

func TestOfExamples(t *testing.T) {
	for i, x := range []struct {
		places, gens int
		used, free   []int
		alive        []api.Handle
		want         api.Errno
	}{
		{places: 0, gens: 1},
		{places: 3, gens: 1},
		{places: 2, gens: 2, used: []int{2, 2}},
		{places: 2, gens: 2, used: []int{2, 1}, alive: []api.Handle{h(1, 1)}},
		{places: 2, gens: 2, used: []int{2, 1}, alive: []api.Handle{h(1, 1), h(0, 2)}},
		{places: 2, gens: 2, used: []int{1, 1}, free: []int{1, 0}},
		{places: 2, gens: 2, used: []int{2, 1}, want: api.ErrForm},
		{places: 2, gens: 2, used: []int{1, 1}, free: []int{1}, want: api.ErrForm},
		{places: 2, gens: 2, used: []int{1, 1}, free: []int{1, 0, 1}, want: api.ErrForm},
		{places: 2, gens: 2, used: []int{2, 1}, free: []int{0, 1}, want: api.ErrForm},
		{places: 2, gens: 2, used: []int{1, 1}, free: []int{0, 1}, alive: []api.Handle{h(0, 1)}, want: api.ErrForm},
		{places: 2, gens: 2, used: []int{2}, alive: []api.Handle{h(0, 1)}, want: api.ErrForm},
		{places: 2, gens: 2, used: []int{2}, alive: []api.Handle{h(1, 0)}, want: api.ErrForm},
		{places: 2, gens: 2, used: []int{2}, alive: []api.Handle{h(0, 2), h(0, 2)}, want: api.ErrForm},
		{places: 2, gens: 2, used: []int{2, 2, 2}, want: api.ErrForm},
		{places: 2, gens: 2, used: []int{3}, alive: []api.Handle{h(0, 3)}, want: api.ErrForm},
		{places: 2, gens: 2, used: []int{0}, free: []int{0}, want: api.ErrForm},
		{places: 2, gens: 2, free: []int{0}, want: api.ErrForm},
		{places: 2, gens: 2, alive: []api.Handle{h(0, 0)}, want: api.ErrForm},
		// New's error is told ahead of what is wrong with the lists.
		{places: -1, gens: 2, used: []int{9}, want: api.ErrArg},
		{places: 1025, gens: 2, used: []int{9}, want: api.ErrArg},
		{places: 2, gens: 0, used: []int{9}, want: api.ErrArg},
		{places: 2, gens: 65536, free: []int{9}, want: api.ErrArg},
		{places: math.MinInt, gens: math.MaxInt, alive: []api.Handle{h(9, 9)}, want: api.ErrArg},
		{places: math.MaxInt, gens: 1, want: api.ErrArg},
		{places: 1, gens: math.MinInt, want: api.ErrArg},
	} {
		s, e := slab.Of(x.places, x.gens, x.used, x.free, x.alive)
		if e != x.want || (s == nil) != (x.want != api.OK) {
			t.Errorf("%d: %v, %v; want %v", i, s, e, x.want)
		}
	}
}

// The most places and gens there may be, and one more of each.
func TestOfMost(t *testing.T) {
	var used, free []int
	var alive []api.Handle
	for i := range api.MaxPlaces {
		switch i % 4 {
		case 0:
			used, free = append(used, api.MaxGen-1), append(free, i)
		case 1:
			used, alive = append(used, 1), append(alive, h(i, 1))
		case 2:
			used, alive = append(used, api.MaxGen), append(alive, h(i, api.MaxGen))
		case 3:
			used = append(used, api.MaxGen)
		}
	}
	slices.Reverse(free)
	slices.Reverse(alive)
	s, e := slab.Of(api.MaxPlaces, api.MaxGen, used, free, alive)
	if e != api.OK {
		t.Fatal(e)
	}
	if u, f := s.Image(); !slices.Equal(u, used) || !slices.Equal(f, free) || s.Len() != 512 || s.Left() != 256 || s.Worn() != 256 {
		t.Error(s.Len(), s.Left(), s.Worn())
	}
	for i := range free {
		if x, e := s.Take(); x != h(4*i, api.MaxGen) || e != api.OK {
			t.Fatal(i, x, e)
		}
	}
	if x, e := s.Take(); x != (api.Handle{}) || e != api.ErrFull {
		t.Error(x, e)
	}
	if _, e := slab.Of(api.MaxPlaces, api.MaxGen, append(used, api.MaxGen), free, alive); e != api.ErrForm {
		t.Error(e)
	}
	used[0]++
	if _, e := slab.Of(api.MaxPlaces, api.MaxGen, used, free, alive); e != api.ErrForm {
		t.Error(e)
	}
	if _, e := slab.Of(api.MaxPlaces, api.MaxGen, make([]int, 1<<20), make([]int, 1<<20), make([]api.Handle, 1<<20)); e != api.ErrForm {
		t.Error(e)
	}
}

// spoiled has its elements, and what is behind them in its memory, spoiled.
func spoiled[T any](l []T, by T) {
	l = l[:cap(l)]
	for i := range l {
		l[i] = by
	}
}

// What a slab is made of is not changed, and not kept; what it tells, neither.
func TestNothingShared(t *testing.T) {
	used, free, alive := []int{1, 2, 3, 3, 1}, []int{4, 1}, []api.Handle{h(2, 3), h(0, 1)}
	givenUsed, givenFree, givenAlive := slices.Clone(used), slices.Clone(free), slices.Clone(alive)
	s, e := slab.Of(6, 3, givenUsed, givenFree, givenAlive)
	if e != api.OK || !slices.Equal(givenUsed, used) || !slices.Equal(givenFree, free) || !slices.Equal(givenAlive, alive) {
		t.Fatal(e, givenUsed, givenFree, givenAlive)
	}
	same := func() {
		t.Helper()
		u, f := s.Image()
		if !slices.Equal(u, used) || !slices.Equal(f, free) || s.Len() != 2 || s.Left() != 3 || s.Worn() != 1 {
			t.Fatal(u, f, s.Len(), s.Left(), s.Worn())
		}
		if !s.Alive(h(2, 3)) || !s.Alive(h(0, 1)) {
			t.Fatal("alive")
		}
	}
	same()
	spoiled(givenUsed, 77)
	spoiled(givenFree, 77)
	spoiled(givenAlive, h(77, 77))
	same()
	u, f := s.Image()
	otherUsed, otherFree := s.Image()
	spoiled(u, 77)
	if !slices.Equal(f, free) {
		t.Error("what was taken, and what was freed, share memory")
	}
	spoiled(f, 77)
	if !slices.Equal(otherUsed, used) || !slices.Equal(otherFree, free) {
		t.Error("two images share memory", otherUsed, otherFree)
	}
	same()
	for range 3 {
		if _, e := s.Take(); e != api.OK {
			t.Error(e)
		}
	}
	if e := s.Free(h(0, 1)); e != api.OK {
		t.Error(e)
	}
	if !slices.Equal(otherUsed, used) || !slices.Equal(otherFree, free) {
		t.Error("an image goes on with its slab", otherUsed, otherFree)
	}
}

// An image that has nothing has no memory of what its slab keeps, either: what
// is put behind it is not seen there.
func TestEmptyImageSharesNothing(t *testing.T) {
	s := made(t, 3, 3)
	for range 3 {
		s.Take()
	}
	for i := range 3 {
		s.Free(h(i, 1))
	}
	for range 3 {
		s.Take()
	}
	_, f := s.Image()
	for i := range 3 {
		s.Free(h(i, 2))
	}
	for range 3 {
		f = append(f, 77)
	}
	if _, free := s.Image(); !slices.Equal(free, []int{0, 1, 2}) {
		t.Error(free)
	}
}

// Two slabs of one image go their own ways.
func TestSlabsApart(t *testing.T) {
	used, free, alive := []int{1, 1, 1}, []int{2, 0}, []api.Handle{h(1, 1)}
	a, _ := slab.Of(4, 2, used, free, alive)
	b, _ := slab.Of(4, 2, used, free, alive)
	if a == nil || b == nil {
		t.Fatal("no slab")
	}
	for range 3 {
		a.Take()
	}
	a.Free(h(1, 1))
	if u, f := b.Image(); !slices.Equal(u, used) || !slices.Equal(f, free) || !b.Alive(h(1, 1)) || b.Len() != 1 {
		t.Error(u, f, b.Len())
	}
}
