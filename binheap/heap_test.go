package binheap

import (
	"testing"

	"compline/api"
	"compline/queuetest"
	"compline/tick"
)

// sound tells whether none is before the one above it, and whether each place
// is known to stand where it stands, and no other place anywhere.
func sound(t *testing.T, q *Queue) {
	t.Helper()
	h := q.heap.timers
	for i, x := range h {
		if i > 0 && tick.Compare(x, h[(i-1)/2]) < 0 {
			t.Fatalf("%v at %d stands below %v: %v", x, i, h[(i-1)/2], h)
		}
		if q.where[x.Place] != i {
			t.Fatalf("place %d stands at %d, not at %d: %v", x.Place, i, q.where[x.Place], h)
		}
	}
	known := 0
	for _, i := range q.where {
		if i != nowhere {
			known++
		}
	}
	if known != len(h) {
		t.Fatalf("%d places are known to stand in %v", known, h)
	}
}

// Whatever is done, a heap is what the timers are kept in.
func TestHeapIsSound(t *testing.T) {
	for _, places := range []int{1, 2, 3, 6, 7, 13, 40} {
		q, e := New(places)
		if e != api.OK {
			t.Fatal(e)
		}
		roll := queuetest.Dice(uint64(places))
		for range 20000 {
			x := api.Timer{At: uint64(roll(2 * places)), Seq: uint64(roll(3)), Place: roll(places)}
			switch roll(8) {
			case 0, 1, 2, 3:
				q.Insert(x)
			case 4, 5:
				q.Move(x)
			case 6:
				q.Cancel(x.Place)
			case 7:
				q.Due(uint64(roll(1 + places/4)))
			}
			sound(t, q)
		}
	}
}
