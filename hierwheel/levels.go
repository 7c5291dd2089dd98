package hierwheel

import (
	"iter"

	"compline/api"
	"compline/bitmap"
	"compline/placed"
)

const levelCount = 4

// The levels of what lies in no slot.
const (
	ready = -1
	far   = levelCount
)

// The lists of what lies in no slot; behind them stand those of the slots.
const (
	readyList = iota
	farList
	slotLists
)

// level is a level's slots.
type level struct {
	// first is the list of slot 0; those of the others follow.
	first int
	// filled has just those slots in it in which a timer lies.
	filled api.Bits
}

// spot is where a timer lies: its level, and its slot there.
type spot struct {
	level, slot int
}

// isSlot tells whether it is one of the four levels' slots.
func (s spot) isSlot() bool { return s.level > ready && s.level < far }

// list is the one in which those of a spot are.
func (q *Queue) list(s spot) int {
	switch s.level {
	case ready:
		return readyList
	case far:
		return farList
	}
	return q.levels[s.level].first + s.slot
}

// mark lets the level of a spot know whether a timer lies there.
func (q *Queue) mark(s spot) {
	if !s.isSlot() {
		return
	}
	l := &q.levels[s.level]
	if placed.Some(q.Timers, q.list(s)) {
		l.filled = bitmap.Put(l.filled, s.slot)
	} else {
		l.filled = bitmap.Drop(l.filled, s.slot)
	}
}

// slots are the levels and the slots in which a timer lies, in the order of their
// ticks. The one that is told may be emptied.
func (q *Queue) slots() iter.Seq2[int, int] {
	return func(yield func(int, int) bool) {
		// All of a level have the base's digits above it, and so lie ahead of those
		// of the next level.
		for level := range q.levels {
			slot, some := bitmap.Next(q.levels[level].filled, 0)
			for some {
				if !yield(level, slot) {
					return
				}
				slot, some = bitmap.Next(q.levels[level].filled, slot+1)
			}
		}
	}
}
