package bitmap_test

import (
	"math"
	"slices"
	"testing"

	"compline/api"
	"compline/bitmap"
)

const size = 256

// numbers are all bits' numbers, those around them, and the farthest ones.
func numbers() []int {
	l := []int{math.MinInt, math.MinInt + 1, math.MinInt + 63, math.MinInt + 64, math.MinInt + 256, math.MinInt32, -1 << 16}
	for i := -130; i < size+130; i++ {
		l = append(l, i)
	}
	return append(l, 512, 1000, 1<<16, math.MaxInt32, 1<<32, 1<<32+5, math.MaxInt-256, math.MaxInt-64, math.MaxInt-1, math.MaxInt)
}

// edges are numbers at which a word, or the bits, begin or end.
func edges() []int {
	l := []int{math.MinInt, math.MinInt + 1, -257, -256, -65, -64, -2, -1}
	for _, i := range []int{0, 64, 128, 192, 256} {
		l = append(l, i-1, i, i+1, i+5)
	}
	return append(l, 100, 320, 1000, math.MaxInt-1, math.MaxInt)
}

// samples are bits: none, all, one alone, all but one, at words' ends, and mixed.
func samples() []api.Bits {
	full := api.Bits{math.MaxUint64, math.MaxUint64, math.MaxUint64, math.MaxUint64}
	l := []api.Bits{{}, full}
	for _, i := range []int{0, 1, 31, 32, 62, 63, 64, 65, 127, 128, 191, 192, 254, 255} {
		one, rest := api.Bits{}, full
		one[i/64] = 1 << (i % 64)
		rest[i/64] -= 1 << (i % 64)
		l = append(l, one, rest)
	}
	for w := range 4 {
		var whole, ends api.Bits
		whole[w] = math.MaxUint64
		ends[w] = 1 | 1<<63
		l = append(l, whole, ends)
	}
	l = append(l, api.Bits{1 | 1<<63, 1 | 1<<63, 1 | 1<<63, 1 | 1<<63}, api.Bits{1 << 3, 1 << 6}, api.Bits{1 << 63, 0, 0, 1})
	x := uint64(1)
	for range 12 {
		var b api.Bits
		for w := range b {
			x = x*6364136223846793005 + 1442695040888963407
			b[w] = x ^ x>>29
		}
		l = append(l, b)
	}
	return l
}

// in tells by plain sums whether a number is in b: bit i is worth 2^(i % 64) in
// the word i / 64.
func in(b api.Bits, i int) bool {
	if i < 0 || i >= size {
		return false
	}
	x := b[i/64]
	for range i % 64 {
		x /= 2
	}
	return x%2 == 1
}

// members are those in b, one number after the other asked for.
func members(b api.Bits) []int {
	var l []int
	for i := range size {
		if in(b, i) {
			l = append(l, i)
		}
	}
	return l
}

// fits are those of l for which ok holds.
func fits(l []int, ok func(i int) bool) []int {
	return slices.DeleteFunc(slices.Clone(l), func(i int) bool { return !ok(i) })
}

// least is the first one of l, if there is one.
func least(l []int) (int, bool) {
	if len(l) == 0 {
		return 0, false
	}
	return l[0], true
}

// greatest is the last one of l, if there is one.
func greatest(l []int) (int, bool) {
	if len(l) == 0 {
		return 0, false
	}
	return l[len(l)-1], true
}

func TestExamples(t *testing.T) {
	b := bitmap.Of(70, 3, 70, 300)
	if l := bitmap.List(b); !slices.Equal(l, []int{3, 70}) {
		t.Error("List", l)
	}
	if i, ok := bitmap.Next(b, 4); i != 70 || !ok {
		t.Error("Next(4)", i, ok)
	}
	if i, ok := bitmap.Last(b, 69); i != 3 || !ok {
		t.Error("Last(69)", i, ok)
	}
	if i, ok := bitmap.Round(b, 71, 256); i != 3 || !ok {
		t.Error("Round(71, 256)", i, ok)
	}
	if i, ok := bitmap.Round(b, 5, 70); i != 3 || !ok {
		t.Error("Round(5, 70)", i, ok)
	}
}

func TestOfOne(t *testing.T) {
	for _, i := range numbers() {
		var want api.Bits
		if i >= 0 && i < size {
			want[i/64] = 1 << (i % 64)
		}
		if b := bitmap.Of(i); b != want {
			t.Errorf("Of(%d): %x", i, b)
		}
	}
}

func TestOfNone(t *testing.T) {
	if b := bitmap.Of(); b != (api.Bits{}) {
		t.Errorf("Of(): %x", b)
	}
	if b := bitmap.Of([]int{}...); b != (api.Bits{}) {
		t.Errorf("Of of an empty list: %x", b)
	}
	if b := bitmap.Of(-1, 256, math.MinInt, math.MaxInt); b != (api.Bits{}) {
		t.Errorf("Of numbers that are not from 0 to 255: %x", b)
	}
}

// Whatever order they come in, however often, and what stands between them.
func TestOfMany(t *testing.T) {
	for _, want := range samples() {
		l := members(want)
		if b := bitmap.Of(l...); b != want {
			t.Errorf("Of(%v): %x", l, b)
		}
		slices.Reverse(l)
		l = slices.Concat([]int{-1, math.MinInt}, l, []int{256, math.MaxInt}, l)
		was := slices.Clone(l)
		if b := bitmap.Of(l...); b != want {
			t.Errorf("Of(%v): %x", l, b)
		}
		if !slices.Equal(l, was) {
			t.Errorf("Of changed %v to %v", was, l)
		}
	}
	if b := bitmap.Of(numbers()...); bitmap.Count(b) != size {
		t.Errorf("Of all: %x", b)
	}
}

// checkBut holds b against was: they have the same in them but, it may be, i.
func checkBut(t *testing.T, call string, was, b api.Bits, i int) {
	t.Helper()
	for k := range size {
		if k != i && in(b, k) != in(was, k) {
			t.Errorf("%s(%x, %d): %x: %d is another one", call, was, i, b, k)
		}
	}
}

func TestPutAndDrop(t *testing.T) {
	for _, b := range samples() {
		for _, i := range edges() {
			put, drop := bitmap.Put(b, i), bitmap.Drop(b, i)
			if in(put, i) != (i >= 0 && i < size) || in(drop, i) {
				t.Errorf("%x, %d: put %x, dropped %x", b, i, put, drop)
			}
			checkBut(t, "Put", b, put, i)
			checkBut(t, "Drop", b, drop, i)
		}
	}
}

func TestPutAndDropOfEachNumber(t *testing.T) {
	full := bitmap.Of(numbers()...)
	for _, i := range numbers() {
		there := i >= 0 && i < size
		if put := bitmap.Put(api.Bits{}, i); in(put, i) != there || !there && put != (api.Bits{}) {
			t.Errorf("Put(none, %d): %x", i, put)
		}
		if drop := bitmap.Drop(full, i); in(drop, i) || !there && drop != full {
			t.Errorf("Drop(all, %d): %x", i, drop)
		}
		checkBut(t, "Put", api.Bits{}, bitmap.Put(api.Bits{}, i), i)
		checkBut(t, "Drop", full, bitmap.Drop(full, i), i)
	}
}

func TestHas(t *testing.T) {
	for _, b := range samples() {
		for _, i := range numbers() {
			if has := bitmap.Has(b, i); has != in(b, i) {
				t.Errorf("Has(%x, %d): %v", b, i, has)
			}
		}
	}
}

func TestCountAndList(t *testing.T) {
	for _, b := range samples() {
		want := members(b)
		if n := bitmap.Count(b); n != len(want) {
			t.Errorf("Count(%x): %d; want %d", b, n, len(want))
		}
		l := bitmap.List(b)
		if !slices.Equal(l, want) {
			t.Errorf("List(%x): %v; want %v", b, l, want)
		}
		// What is done to one answer is not seen in the next one.
		for k := range l {
			l[k] = -1
		}
		if l := bitmap.List(b); !slices.Equal(l, want) {
			t.Errorf("List(%x) once more: %v; want %v", b, l, want)
		}
	}
}

func TestBothAndEither(t *testing.T) {
	for _, a := range samples() {
		for _, b := range samples() {
			both, either := bitmap.Both(a, b), bitmap.Either(a, b)
			for i := range size {
				if in(both, i) != (in(a, i) && in(b, i)) {
					t.Errorf("Both(%x, %x): %x: %d", a, b, both, i)
				}
				if in(either, i) != (in(a, i) || in(b, i)) {
					t.Errorf("Either(%x, %x): %x: %d", a, b, either, i)
				}
			}
		}
	}
}

// As many are in both and in either, together, as are in the one and in the other.
func TestCountsAgree(t *testing.T) {
	for _, a := range samples() {
		for _, b := range samples() {
			two := bitmap.Count(bitmap.Both(a, b)) + bitmap.Count(bitmap.Either(a, b))
			if each := bitmap.Count(a) + bitmap.Count(b); two != each {
				t.Errorf("%x, %x: %d in both and either, %d in the one and the other", a, b, two, each)
			}
		}
	}
}

func TestNext(t *testing.T) {
	for _, b := range samples() {
		l := members(b)
		for _, from := range numbers() {
			want, is := least(fits(l, func(i int) bool { return i >= from }))
			if i, ok := bitmap.Next(b, from); i != want || ok != is {
				t.Errorf("Next(%x, %d): %d, %v; want %d, %v", b, from, i, ok, want, is)
			}
		}
	}
}

// Between from and the next one there is none.
func TestNoneBetween(t *testing.T) {
	for _, b := range samples() {
		for from := range size {
			end, ok := bitmap.Next(b, from)
			if !ok {
				end = size
			} else if end < from || !bitmap.Has(b, end) {
				t.Errorf("Next(%x, %d): %d", b, from, end)
			}
			for i := from; i < end; i++ {
				if bitmap.Has(b, i) {
					t.Errorf("Next(%x, %d): %d, but %d stands between", b, from, end, i)
				}
			}
		}
	}
}

func TestLast(t *testing.T) {
	for _, b := range samples() {
		l := members(b)
		for _, from := range numbers() {
			want, is := greatest(fits(l, func(i int) bool { return i <= from }))
			if i, ok := bitmap.Last(b, from); i != want || ok != is {
				t.Errorf("Last(%x, %d): %d, %v; want %d, %v", b, from, i, ok, want, is)
			}
		}
	}
}

// rounded is what Round must tell of those in l.
func rounded(l []int, from, n int) (int, bool) {
	if from < 0 || from >= n {
		return 0, false
	}
	l = fits(l, func(i int) bool { return i < n })
	if i, ok := least(fits(l, func(i int) bool { return i >= from })); ok {
		return i, true
	}
	return least(l)
}

func checkRound(t *testing.T, b api.Bits, l []int, from, n int) {
	t.Helper()
	want, is := rounded(l, from, n)
	if i, ok := bitmap.Round(b, from, n); i != want || ok != is {
		t.Errorf("Round(%x, %d, %d): %d, %v; want %d, %v", b, from, n, i, ok, want, is)
	}
}

func TestRoundAtTheEdges(t *testing.T) {
	for _, b := range samples() {
		l := members(b)
		for _, n := range edges() {
			for _, from := range edges() {
				checkRound(t, b, l, from, n)
			}
			// Where n itself ends what from may be; at the least int, n - 1 wraps round.
			checkRound(t, b, l, n-1, n)
			checkRound(t, b, l, n, n)
		}
	}
}

func TestRoundOfEachSize(t *testing.T) {
	b := bitmap.Of(5, 63, 64, 130, 255)
	l := members(b)
	for n := -3; n < size+10; n++ {
		for from := -3; from < size+12; from++ {
			checkRound(t, b, l, from, n)
		}
	}
}

func TestRoundTellsNone(t *testing.T) {
	for _, x := range []struct {
		b       api.Bits
		from, n int
	}{
		{api.Bits{}, 0, 256},
		{bitmap.Of(9, 200), 0, 9},
		{bitmap.Of(9, 200), 8, 9},
		{bitmap.Of(0, 9), -1, 256},
		{bitmap.Of(0, 9), 10, 10},
		{bitmap.Of(0, 9), 0, 0},
		{bitmap.Of(0, 9), -2, -1},
		{bitmap.Of(0, 9), math.MaxInt, math.MinInt},
		{bitmap.Of(0, 9), math.MaxInt, math.MaxInt},
	} {
		if i, ok := bitmap.Round(x.b, x.from, x.n); i != 0 || ok {
			t.Errorf("Round(%x, %d, %d): %d, %v", x.b, x.from, x.n, i, ok)
		}
	}
}

func TestRoundBeyondTheBits(t *testing.T) {
	b := bitmap.Of(7, 255)
	for _, x := range []struct{ from, n, want int }{
		{255, 256, 255},
		{255, 257, 255},
		{256, 257, 7},
		{900, 1000, 7},
		{0, math.MaxInt, 7},
		{8, math.MaxInt, 255},
		{math.MaxInt - 1, math.MaxInt, 7},
	} {
		if i, ok := bitmap.Round(b, x.from, x.n); i != x.want || !ok {
			t.Errorf("Round(%x, %d, %d): %d, %v", b, x.from, x.n, i, ok)
		}
	}
}
