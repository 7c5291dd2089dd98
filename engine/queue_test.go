package engine

import (
	"testing"

	"compline/api"
	"compline/hashwheel"
	"compline/hierwheel"
)

// wheel is the queue that an engine of a kind holds, in which timers of these ticks
// pend, place by place.
func wheel[Q queue](t *testing.T, kind, bits int, base uint64, ats ...uint64) Q {
	t.Helper()
	e, err := New(kind, len(ats), bits, base)
	if err != api.OK {
		t.Fatalf("New(%d, %d, %d, %d): %v", kind, len(ats), bits, base, err)
	}
	q, ok := e.queue.(Q)
	if !ok {
		t.Fatalf("kind %d holds a %T", kind, e.queue)
	}
	for place, at := range ats {
		if err := e.Insert(api.Timer{At: at, Place: place}); err != api.OK {
			t.Fatalf("kind %d: %v", kind, err)
		}
	}
	return q
}

// What an engine tells does not show it: but the wheels are made with the bits, and
// with the base. In a wheel of slots two timers lie in one slot just if a whole wheel is between them.
func TestHashIsMadeWithBitsAndBase(t *testing.T) {
	for bits := 1; bits <= 6; bits++ {
		size := uint64(4) << bits
		for _, base := range []uint64{0, 5, 1 << 40} {
			for between, slots := range map[uint64]int{size: 1, size / 2: 2} {
				q := wheel[*hashwheel.Queue](t, api.KindHash, bits, base, base+1, base+1+between)
				if q.Base() != base {
					t.Errorf("bits %d, base %d: %d", bits, base, q.Base())
				}
				q.Due(base + 3*size)
				if q.Looked() != slots {
					t.Errorf("bits %d, base %d, %d between them: looked into %d", bits, base, between, q.Looked())
				}
			}
		}
	}
}

// The last tick that the base sees at level 0, and the first one at level 1, tell how
// many slots there are.
func TestWheelIsMadeWithBitsAndBase(t *testing.T) {
	for bits := 1; bits <= 6; bits++ {
		size := uint64(1) << bits
		for _, base := range []uint64{0, 1 << 40} {
			q := wheel[*hierwheel.Queue](t, api.KindWheel, bits, base, base+size-1, base+size)
			if q.Base() != base {
				t.Errorf("bits %d, base %d: %d", bits, base, q.Base())
			}
			for place := range 2 {
				if level, _, ok := q.Where(place); level != place || !ok {
					t.Errorf("bits %d, base %d: place %d lies at level %d, %v", bits, base, place, level, ok)
				}
			}
		}
	}
}
