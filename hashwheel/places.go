package hashwheel

import (
	"compline/api"
	"compline/chain"
	"compline/order"
)

// placeQueue has timers that pend, each at its place, and each place at which
// one pends in one of some lists. What the lists are for, it does not know.
type placeQueue struct {
	lists  *chain.Chains
	timers []api.Timer
}

// newPlaceQueue has so many places and lists, and none pends.
func newPlaceQueue(places, lists int) (placeQueue, api.Errno) {
	c, e := chain.New(places, lists)
	if e != api.OK {
		return placeQueue{}, e
	}
	return placeQueue{lists: c, timers: make([]api.Timer, places)}, api.OK
}

// Get is the one at a place.
func (p *placeQueue) Get(place int) (api.Timer, bool) {
	if _, pends := p.lists.Which(place); !pends {
		return api.Timer{}, false
	}
	return p.timers[place], true
}

// Len is how many pend.
func (p *placeQueue) Len() int { return len(p.pending()) }

// All are those that pend.
func (p *placeQueue) All() []api.Timer { return order.Sort(p.pending()) }

// put lets one pend, in a list.
func (p *placeQueue) put(list int, t api.Timer) api.Errno {
	// What is wrong with a place the chains tell by the same numbers.
	if e := p.lists.Append(list, t.Place); e != api.OK {
		return e
	}
	p.timers[t.Place] = t
	return api.OK
}

// take takes one out.
func (p *placeQueue) take(place int) (api.Timer, api.Errno) {
	if e := p.lists.Drop(place); e != api.OK {
		return api.Timer{}, e
	}
	t := p.timers[place]
	p.timers[place] = api.Timer{}
	return t, api.OK
}

// in are those of a list.
func (p *placeQueue) in(list int) []api.Timer {
	var l []api.Timer
	for _, place := range p.lists.All(list) {
		l = append(l, p.timers[place])
	}
	return l
}

// pending are those that pend, place by place.
func (p *placeQueue) pending() []api.Timer {
	var l []api.Timer
	for place := range p.timers {
		if t, pends := p.Get(place); pends {
			l = append(l, t)
		}
	}
	return l
}
