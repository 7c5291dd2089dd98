package hashwheel

import (
	"slices"
	"testing"

	"compline/api"
	"compline/placed"
	"compline/queuetest"
)

// sound tells whether each timer that pends is in the list that its tick asks
// for, and whether just those slots are known to be filled in which one lies.
func sound(t *testing.T, q *Queue) {
	t.Helper()
	met := 0
	for list := range q.size + 1 {
		l := placed.In(q.Timers, list)
		met += len(l)
		for _, x := range l {
			want := int(x.At % uint64(q.size))
			if x.At <= q.base {
				want = q.size
			}
			if list != want {
				t.Fatalf("%v is in list %d; want %d", x, list, want)
			}
		}
		if list < q.size && isIn(q.filled, list) != (len(l) > 0) {
			t.Fatalf("slot %d has %v, and is known as filled: %v", list, l, isIn(q.filled, list))
		}
	}
	for i := q.size; i < 256; i++ {
		if isIn(q.filled, i) {
			t.Fatalf("slot %d of %d is known as filled", i, q.size)
		}
	}
	if met != q.Len() {
		t.Fatalf("%d are in lists, %d pend", met, q.Len())
	}
}

// isIn is chapter 2's word, said anew.
func isIn(b api.Bits, i int) bool { return b[i/64]>>(i%64)&1 == 1 }

// Whatever is done, a wheel is what the timers are kept in.
func TestWheelIsSound(t *testing.T) {
	for bits := 1; bits <= 6; bits++ {
		const places = 50
		for _, base := range []uint64{3, 1 << 32, api.Never - 4000} {
			q, e := New(places, bits, base)
			if e != api.OK {
				t.Fatal(e)
			}
			roll := queuetest.Dice(base + uint64(bits))
			for range 1500 {
				x := api.Timer{At: q.base + uint64(roll(3*q.size)) - uint64(roll(3)), Seq: uint64(roll(3)), Place: roll(places)}
				switch roll(8) {
				case 0, 1, 2, 3:
					q.Insert(x)
				case 4, 5:
					q.Move(x)
				case 6:
					q.Cancel(x.Place)
				case 7:
					q.Due(q.base + uint64(roll(6)) - 1)
				}
				sound(t, q)
			}
		}
	}
}

// Each set of eight slots, each tick from which one may go on, and each number
// of ticks: told are just those that are filled, in the ticks' order, whether
// they are emptied meanwhile or not.
func TestSlots(t *testing.T) {
	for filled := range uint64(256) {
		for base := range uint64(8) {
			for n := range 9 {
				var want []int
				for k := range n {
					if slot := int(base+1+uint64(k)) % 8; filled>>slot&1 == 1 {
						want = append(want, slot)
					}
				}
				for _, emptied := range []bool{false, true} {
					q := &Queue{size: 8, base: base, filled: api.Bits{filled}}
					var got []int
					for slot := range q.slots(n) {
						got = append(got, slot)
						if emptied {
							q.filled[0] &^= 1 << slot
						}
					}
					if !slices.Equal(got, want) {
						t.Fatalf("slots %b, base %d, %d ticks: %v; want %v", filled, base, n, got, want)
					}
				}
			}
		}
	}
}

// Who has heard enough leaves, in the first turn or in the second one.
func TestSlotsLeft(t *testing.T) {
	all := []int{6, 7, 0, 1, 2, 3, 4, 5}
	for enough := range len(all) {
		q := &Queue{size: 8, base: 5, filled: api.Bits{255}}
		var got []int
		for slot := range q.slots(8) {
			got = append(got, slot)
			if len(got) > enough {
				break
			}
		}
		if !slices.Equal(got, all[:enough+1]) {
			t.Errorf("%v; want %v", got, all[:enough+1])
		}
	}
}
