// Package placed has what those queues have in common that keep their timers in
// lists of places: which timer pends at a place, and in which of the lists. What
// the lists are for, only the queue knows.
package placed

import (
	"compline/api"
	"compline/chain"
	"compline/order"
)

// Timers pend, one at a place at most, each in one of some lists. The methods are
// calls that every queue has: one that embeds Timers has them. What else there is
// are functions, so that a queue has no calls that it should not have.
type Timers struct {
	lists  *chain.Chains
	timers []api.Timer
}

// New has so many places and lists, and none pends.
func New(places, lists int) (*Timers, api.Errno) {
	c, e := chain.New(places, lists)
	if e != api.OK {
		return nil, e
	}
	return &Timers{lists: c, timers: make([]api.Timer, places)}, api.OK
}

// Get is the one at a place.
func (p *Timers) Get(place int) (api.Timer, bool) {
	if _, pends := p.lists.Which(place); !pends {
		return api.Timer{}, false
	}
	return p.timers[place], true
}

// Len is how many pend.
func (p *Timers) Len() int { return len(p.pending()) }

// All are those that pend.
func (p *Timers) All() []api.Timer { return order.Sort(p.pending()) }

// Append lets one pend, behind all of a list.
func Append(p *Timers, list int, t api.Timer) api.Errno {
	// What is wrong with a place the chains tell by the numbers that a queue's
	// Insert has for it.
	if e := p.lists.Append(list, t.Place); e != api.OK {
		return e
	}
	p.timers[t.Place] = t
	return api.OK
}

// Line lets one pend, in a list that is in order, where it stays so.
func Line(p *Timers, list int, t api.Timer) api.Errno {
	before, e := order.Find(In(p, list), t)
	if e != api.OK {
		return e
	}
	places := p.lists.All(list)
	if before == len(places) {
		return Append(p, list, t)
	}
	if e := p.lists.Insert(t.Place, places[before]); e != api.OK {
		return e
	}
	p.timers[t.Place] = t
	return api.OK
}

// Take takes one out.
func Take(p *Timers, place int) (api.Timer, api.Errno) {
	if e := p.lists.Drop(place); e != api.OK {
		return api.Timer{}, e
	}
	t := p.timers[place]
	p.timers[place] = api.Timer{}
	return t, api.OK
}

// Cut takes those out of a list that are due.
func Cut(p *Timers, list int, now uint64) []api.Timer {
	var due []api.Timer
	for _, t := range In(p, list) {
		if t.At <= now {
			Take(p, t.Place)
			due = append(due, t)
		}
	}
	return due
}

// Some tells whether one is in a list.
func Some(p *Timers, list int) bool {
	_, some := p.lists.First(list)
	return some
}

// In are those of a list, as they stand there.
func In(p *Timers, list int) []api.Timer {
	var l []api.Timer
	for _, place := range p.lists.All(list) {
		l = append(l, p.timers[place])
	}
	return l
}

// pending are those that pend, place by place.
func (p *Timers) pending() []api.Timer {
	var l []api.Timer
	for place := range p.timers {
		if t, pends := p.Get(place); pends {
			l = append(l, t)
		}
	}
	return l
}
