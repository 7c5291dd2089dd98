package hierwheel

import (
	"slices"
	"testing"

	"compline/api"
	"compline/placed"
	"compline/queuetest"
)

// isIn is chapter 2's word, said anew.
func isIn(b api.Bits, i int) bool { return b[i/64]>>(i%64)&1 == 1 }

// spots are all spots of a queue: that of what is ready, the slots, and that of
// what is far.
func spots(q *Queue) []spot {
	l := []spot{{level: -1}}
	for level := range 4 {
		for slot := range 1 << q.bits {
			l = append(l, spot{level, slot})
		}
	}
	return append(l, spot{level: 4})
}

// sound tells whether each timer that pends is in the list of its own spot,
// whether just those slots are known to be filled in which one lies, and whether
// what is far is in order.
func sound(t *testing.T, q *Queue) {
	t.Helper()
	met := 0
	for _, s := range spots(q) {
		l := placed.In(q.Timers, q.list(s))
		met += len(l)
		for _, x := range l {
			if want := q.spot(x); s != want {
				t.Fatalf("%v is at %v; want %v", x, s, want)
			}
		}
		if s.level >= 0 && s.level < 4 && isIn(q.levels[s.level].filled, s.slot) != (len(l) > 0) {
			t.Fatalf("%v has %v, and is known as filled: %v", s, l, len(l) == 0)
		}
	}
	for level := range 4 {
		for slot := 1 << q.bits; slot < 256; slot++ {
			if isIn(q.levels[level].filled, slot) {
				t.Fatalf("slot %d of level %d is known as filled", slot, level)
			}
		}
	}
	far := placed.In(q.Timers, q.list(spot{level: 4}))
	for i := 1; i < len(far); i++ {
		a, b := far[i-1], far[i]
		if a.At > b.At || a.At == b.At && (a.Seq > b.Seq || a.Seq == b.Seq && a.Place > b.Place) {
			t.Fatalf("%v is far, in this order", far)
		}
	}
	if met != q.Len() {
		t.Fatalf("%d are in lists, %d pend", met, q.Len())
	}
}

// No two spots have one list.
func TestListsApart(t *testing.T) {
	for bits := 1; bits <= 6; bits++ {
		q, e := New(0, bits, 0)
		if e != api.OK {
			t.Fatal(e)
		}
		seen := map[int]spot{}
		for _, s := range spots(q) {
			if other, twice := seen[q.list(s)]; twice {
				t.Errorf("bits %d: %v and %v are one list", bits, s, other)
			}
			seen[q.list(s)] = s
		}
	}
}

// Whatever is done, a wheel is what the timers are kept in.
func TestWheelIsSound(t *testing.T) {
	for bits := 1; bits <= 6; bits++ {
		const places = 50
		for _, base := range []uint64{3, 1 << 32, api.Never - 4000} {
			q, e := New(places, bits, base)
			if e != api.OK {
				t.Fatal(e)
			}
			roll := queuetest.Dice(base + uint64(bits))
			for range 1200 {
				far := 1 + roll(1<<(bits*(1+roll(4))))
				x := api.Timer{At: q.base + uint64(far*(1+roll(2))) - uint64(roll(3)), Seq: uint64(roll(3)), Place: roll(places)}
				switch roll(8) {
				case 0, 1, 2, 3:
					q.Insert(x)
				case 4:
					q.Move(x)
				case 5:
					q.Cancel(x.Place)
				default:
					q.Due(q.base + uint64(far/(1+roll(30))) - uint64(roll(2)))
				}
				sound(t, q)
			}
		}
	}
}

// Each set of the eight slots of a small wheel: told are just those that are
// filled, level by level, whether they are emptied meanwhile or not, up to where
// who hears it leaves.
func TestSlots(t *testing.T) {
	for filled := range 256 {
		var all []spot
		for i := range 8 {
			if filled>>i&1 == 1 {
				all = append(all, spot{i / 2, i % 2})
			}
		}
		for enough := range len(all) + 1 {
			for _, emptied := range []bool{false, true} {
				q := &Queue{bits: 1}
				for _, s := range all {
					q.levels[s.level].filled[0] |= 1 << s.slot
				}
				var got []spot
				for level, slot := range q.slots() {
					got = append(got, spot{level, slot})
					if emptied {
						q.levels[level].filled[0] &^= 1 << slot
					}
					if len(got) > enough {
						break
					}
				}
				if !slices.Equal(got, all[:min(enough+1, len(all))]) {
					t.Fatalf("of %v, up to %d: %v", all, enough, got)
				}
			}
		}
	}
}
