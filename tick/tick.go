// Package tick is layer 1: see shared/doc/01-tick.md.
package tick

import (
	"cmp"
	"math/bits"

	"compline/api"
)

// Add is a sum, and whether it was more than never.
func Add(t, d uint64) (uint64, bool) {
	sum, carry := bits.Add64(t, d, 0)
	if carry != 0 {
		return api.Never, true
	}
	return sum, false
}

// Sub is a difference, no less than 0.
func Sub(t, d uint64) uint64 {
	diff, borrow := bits.Sub64(t, d, 0)
	if borrow != 0 {
		return 0
	}
	return diff
}

// Floor is the multiple of a power of two that is no more.
func Floor(t uint64, b int) uint64 { return t &^ below(b) }

// Ceil is the multiple of a power of two that is no less.
func Ceil(t uint64, b int) (uint64, bool) {
	low := below(b)
	if t&low == 0 {
		return t, false
	}
	// The next multiple stands right behind the last tick of t's own step: so
	// Add tells, of every b alike, whether there is one.
	return Add(t|low, 1)
}

// below has just those bits that a multiple of 2^b has not.
func below(b int) uint64 {
	// A shift by 64 or more leaves 0, and 0 - 1 wraps round to all bits: what b
	// from 64 on asks for.
	return uint64(1)<<max(b, 0) - 1
}

// Compare tells which timer is before the other one.
func Compare(a, b api.Timer) int {
	return cmp.Or(
		cmp.Compare(a.At, b.At),
		cmp.Compare(a.Seq, b.Seq),
		cmp.Compare(a.Place, b.Place),
	)
}

// First is one that none is before.
func First(l ...api.Timer) (api.Timer, bool) {
	if len(l) == 0 {
		return api.Timer{}, false
	}
	first := l[0]
	for i := range len(l) {
		if Compare(l[i], first) < 0 {
			first = l[i]
		}
	}
	return first, true
}

// After is the next one of a row that is more than now, and how many were missed.
func After(at, period, now uint64) (uint64, uint64) {
	if period == 0 {
		return at, 0
	}
	missed := Sub(now, at) / period
	// This can't wrap round: it is no more than the greater one of at and now.
	last := at + missed*period
	next, _ := Add(last, period)
	return next, missed
}
