package binheap

import (
	"compline/api"
	"compline/tick"
)

// nowhere is where one stands that is not in the heap.
const nowhere = -1

// heap has timers, the first one at its top.
type heap struct {
	// Above the one at i stands the one at (i - 1) / 2, and none is before the
	// one above it.
	timers []api.Timer
	// stands is told of each place whose timer comes to stand elsewhere: so who
	// keeps where they stand need not know how they go up and down.
	stands func(place, i int)
}

// push puts one in.
func (h *heap) push(t api.Timer) {
	last := len(h.timers)
	h.timers = append(h.timers, t)
	h.stands(t.Place, last)
	h.settle(last)
}

// replace sets another timer of the same place in the stead of the one at i.
func (h *heap) replace(i int, t api.Timer) {
	h.timers[i] = t
	h.settle(i)
}

// take takes out the one at i.
func (h *heap) take(i int) api.Timer {
	last := len(h.timers) - 1
	h.swap(i, last)
	t := h.timers[last]
	h.timers = h.timers[:last]
	h.stands(t.Place, nowhere)
	if i < last {
		h.settle(i)
	}
	return t
}

// settle lets the one at i, if it alone may stand wrong, go where it belongs.
func (h *heap) settle(i int) {
	// What was the last one, and stands in another one's stead, may have come
	// from another branch: so it may have to go up as well as down.
	h.down(h.up(i))
}

// up lets the one at i go up as far as it must, and is where it stands then.
func (h *heap) up(i int) int {
rising:
	for i > 0 {
		above := (i - 1) / 2
		if !h.before(i, above) {
			break rising
		}
		h.swap(i, above)
		i = above
	}
	return i
}

// down lets the one at i go down as far as it must.
func (h *heap) down(i int) {
sinking:
	for {
		first := i
		for below := 2*i + 1; below <= 2*i+2 && below < len(h.timers); below++ {
			if h.before(below, first) {
				first = below
			}
		}
		if first == i {
			break sinking
		}
		h.swap(i, first)
		i = first
	}
}

// before tells whether the one at i is before the one at j.
func (h *heap) before(i, j int) bool { return tick.Compare(h.timers[i], h.timers[j]) < 0 }

// swap lets two stand where the other one stood, and tells of both.
func (h *heap) swap(i, j int) {
	h.timers[i], h.timers[j] = h.timers[j], h.timers[i]
	h.stands(h.timers[i].Place, i)
	h.stands(h.timers[j].Place, j)
}
