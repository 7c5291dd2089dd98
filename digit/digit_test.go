package digit_test

import (
	"math"
	"slices"
	"testing"

	"compline/digit"
)

const never = math.MaxUint64

// widths are bits, right ones and wrong ones, each with what it counts as.
func widths() map[int]int {
	return map[int]int{
		math.MinInt: 1, math.MinInt + 1: 1, math.MinInt32: 1, -64: 1, -6: 1, -5: 1, -1: 1, 0: 1,
		1: 1, 2: 2, 3: 3, 4: 4, 5: 5, 6: 6,
		7: 6, 8: 6, 16: 6, 63: 6, 64: 6, 99: 6, 256: 6, math.MaxInt32: 6, 1 << 32: 6, 1<<32 + 2: 6, math.MaxInt - 1: 6, math.MaxInt: 6,
	}
}

// heights are levels, right ones and wrong ones, each with what it counts as.
func heights() map[int]int {
	return map[int]int{
		math.MinInt: 0, math.MinInt + 2: 0, -1 << 32: 0, -64: 0, -3: 0, -1: 0,
		0: 0, 1: 1, 2: 2, 3: 3,
		4: 3, 5: 3, 9: 3, 64: 3, 256: 3, 1 << 32: 3, 1<<32 + 1: 3, math.MaxInt - 1: 3, math.MaxInt: 3,
	}
}

// slots are all slots that a level may have, those around them, and the farthest.
func slots() []int {
	l := []int{math.MinInt, math.MinInt + 1, -1 << 32, -64, -2}
	for s := -1; s <= 66; s++ {
		l = append(l, s)
	}
	return append(l, 99, 128, 256, 1<<32, 1<<32+3, math.MaxInt-1, math.MaxInt)
}

// ticks are the least and the greatest ones, those around each power of two, and mixed ones.
func ticks() []uint64 {
	l := []uint64{0, 5, 70, 100, 4423, 5000, 16777215 + 70, never - 2, never - 1, never}
	for k := range 64 {
		p := uint64(1) << k
		l = append(l, p-1, p, p+1, never-p, never-p+1)
	}
	x := uint64(7)
	for k := range 60 {
		x = x*6364136223846793005 + 1442695040888963407
		l = append(l, x>>k)
	}
	slices.Sort(l)
	return slices.Compact(l)
}

// few are fewer ticks, for what is asked of each slot.
func few() []uint64 {
	return []uint64{0, 1, 63, 64, 70, 5000, 1<<24 - 1, 1 << 24, 0x123456789abcdef0, never - 1<<24, never - 1<<24 + 1, never - 1, never}
}

// power is 2^n, n times doubled.
func power(n int) uint64 {
	p := uint64(1)
	for range n {
		p *= 2
	}
	return p
}

// digits are all digits of t, of so many bits, the lowest one first.
func digits(t uint64, bits int) []int {
	var l []int
	for range 64 {
		l = append(l, int(t%power(bits)))
		t /= power(bits)
	}
	return l
}

// value is the tick that has these digits.
func value(l []int, bits int) uint64 {
	var t uint64
	for _, d := range slices.Backward(l) {
		t = t*power(bits) + uint64(d)
	}
	return t
}

// levelOf is the level of the highest digit in which the two differ.
func levelOf(base, at uint64, bits int) int {
	if at <= base {
		return -1
	}
	a, b := digits(base, bits), digits(at, bits)
	for k := len(a) - 1; ; k-- {
		if a[k] != b[k] {
			return min(k, 4)
		}
	}
}

func TestExamples(t *testing.T) {
	for _, x := range []struct {
		call string
		got  int
		want int
	}{
		{"Level(0, 5, 6)", digit.Level(0, 5, 6), 0},
		{"Level(0, 64, 6)", digit.Level(0, 64, 6), 1},
		{"Slot(0, 64, 6)", digit.Slot(0, 64, 6), 1},
		{"Level(63, 64, 6)", digit.Level(63, 64, 6), 1},
		{"Level(0, 16777216, 6)", digit.Level(0, 16777216, 6), 4},
		{"Begin(70, 1, 3, 6)", int(digit.Begin(70, 1, 3, 6)), 192},
		{"Horizon(70, 6)", int(digit.Horizon(70, 6)), 16777215},
	} {
		if x.got != x.want {
			t.Errorf("%s: %d; want %d", x.call, x.got, x.want)
		}
	}
}

func TestReach(t *testing.T) {
	for bits, b := range widths() {
		for level, l := range heights() {
			if got, want := digit.Reach(level, bits), power(b*l); got != want {
				t.Errorf("Reach(%d, %d): %d; want %d", level, bits, got, want)
			}
		}
	}
}

func TestDigit(t *testing.T) {
	for bits, b := range widths() {
		for level, l := range heights() {
			for _, at := range ticks() {
				if got, want := digit.Digit(at, level, bits), digits(at, b)[l]; got != want {
					t.Errorf("Digit(%d, %d, %d): %d; want %d", at, level, bits, got, want)
				}
			}
		}
	}
}

// checkWhere holds Level and Slot against the digits of the two.
func checkWhere(t *testing.T, base, at uint64, bits, b int) {
	t.Helper()
	level, slot := levelOf(base, at, b), 0
	if level >= 0 && level <= 3 {
		slot = digits(at, b)[level]
	}
	if got := digit.Level(base, at, bits); got != level {
		t.Errorf("Level(%d, %d, %d): %d; want %d", base, at, bits, got, level)
	}
	if got := digit.Slot(base, at, bits); got != slot {
		t.Errorf("Slot(%d, %d, %d): %d; want %d", base, at, bits, got, slot)
	}
}

func TestLevelAndSlot(t *testing.T) {
	for b := 1; b <= 6; b++ {
		for _, base := range ticks() {
			for _, at := range ticks() {
				checkWhere(t, base, at, b, b)
			}
		}
	}
}

func TestLevelAndSlotOfAnyBits(t *testing.T) {
	for bits, b := range widths() {
		for _, base := range few() {
			for _, at := range ticks() {
				checkWhere(t, base, at, bits, b)
			}
		}
	}
}

// All of a small wheel, and what lies around it.
func TestLevelAndSlotOfEachTick(t *testing.T) {
	for b := 1; b <= 2; b++ {
		all := power(4 * b)
		for _, first := range []uint64{0, 3 * all, never - 2*all + 1} {
			for base := range all + 2 {
				for at := range 2 * all {
					checkWhere(t, first+base, first+at, b, b)
				}
			}
		}
	}
}

// checkBegin holds Begin against base's digits, with slot in their midst.
func checkBegin(t *testing.T, base uint64, level, slot, bits, l, b int) {
	t.Helper()
	d := digits(base, b)
	for k := range l {
		d[k] = 0
	}
	d[l] = min(max(slot, 0), int(power(b))-1)
	if got, want := digit.Begin(base, level, slot, bits), value(d, b); got != want {
		t.Errorf("Begin(%d, %d, %d, %d): %d; want %d", base, level, slot, bits, got, want)
	}
}

func TestBegin(t *testing.T) {
	for b := 1; b <= 6; b++ {
		for level, l := range heights() {
			for _, slot := range slots() {
				for _, base := range few() {
					checkBegin(t, base, level, slot, b, l, b)
				}
			}
		}
		for l := range 4 {
			for _, slot := range []int{math.MinInt, -1, 0, 1, 2, 3, 62, 63, 64, math.MaxInt} {
				for _, base := range ticks() {
					checkBegin(t, base, l, slot, b, l, b)
				}
			}
		}
	}
}

func TestBeginOfAnyBits(t *testing.T) {
	for bits, b := range widths() {
		for l := range 4 {
			for _, slot := range slots() {
				checkBegin(t, 0x123456789abcdef0, l, slot, bits, l, b)
				checkBegin(t, never, l, slot, bits, l, b)
			}
		}
	}
}

// The first and the last tick of a slot lie in it, those around it do not.
func TestEndsOfSlots(t *testing.T) {
	for b := 1; b <= 6; b++ {
		for l := range 4 {
			for _, near := range []uint64{0, 70, 0x123456789abcdef0, never} {
				base := digit.Begin(near, 3, 0, b)
				for slot := 1; slot < int(power(b)); slot++ {
					first := digit.Begin(base, l, slot, b)
					last := first + (digit.Reach(l, b) - 1)
					for _, at := range []uint64{first, last} {
						if level, s := digit.Level(base, at, b), digit.Slot(base, at, b); level != l || s != slot {
							t.Errorf("bits %d, base %d, slot %d of level %d: %d lies in %d of %d", b, base, slot, l, at, s, level)
						}
					}
					for _, at := range []uint64{first - 1, last + 1} {
						if digit.Level(base, at, b) == l && digit.Slot(base, at, b) == slot {
							t.Errorf("bits %d, base %d, slot %d of level %d: %d lies in it", b, base, slot, l, at)
						}
					}
				}
			}
		}
	}
}

func TestHorizon(t *testing.T) {
	for bits, b := range widths() {
		for _, base := range ticks() {
			d := digits(base, b)
			for k := range 4 {
				d[k] = int(power(b)) - 1
			}
			last := digit.Horizon(base, bits)
			if want := value(d, b); last != want {
				t.Errorf("Horizon(%d, %d): %d; want %d", base, bits, last, want)
			}
			if last > base && digit.Level(base, last, bits) > 3 {
				t.Errorf("bits %d, base %d: %d, the horizon, lies in no level", bits, base, last)
			}
			if last < never && digit.Level(base, last+1, bits) != 4 {
				t.Errorf("bits %d, base %d: %d lies in a level, behind the horizon", bits, base, last+1)
			}
		}
	}
}

// From the beginning of the slot in which a tick lies its level is lower; so in
// four steps it is reached.
func TestFourSteps(t *testing.T) {
	for bits := range widths() {
		for _, start := range few() {
			for _, at := range ticks() {
				base, level := start, digit.Level(start, at, bits)
				if level < 0 || level > 3 {
					continue
				}
				steps := 0
				for ; steps < 4 && base != at; steps++ {
					next := digit.Begin(base, level, digit.Slot(base, at, bits), bits)
					lower := digit.Level(next, at, bits)
					if next <= base || next > at || lower >= level {
						t.Fatalf("bits %d: %d lies at level %d from %d, and at %d from %d", bits, at, level, base, lower, next)
					}
					base, level = next, lower
				}
				if base != at {
					t.Errorf("bits %d: %d is not reached from %d in %d steps", bits, at, start, steps)
				}
			}
		}
	}
}

// A later base brings no tick to a higher level.
func TestLaterBase(t *testing.T) {
	for b := 1; b <= 6; b++ {
		for _, at := range ticks() {
			was := 4
			for _, base := range ticks() {
				level := digit.Level(base, at, b)
				if level > was {
					t.Errorf("bits %d: %d lies at level %d, and from %d at %d", b, at, was, base, level)
				}
				was = level
			}
			if was != -1 {
				t.Errorf("bits %d: %d lies at level %d from the greatest tick", b, at, was)
			}
		}
	}
}
