package moving

import (
	"iter"
	"sync"

	"compline/api"
	"compline/engine"
	"compline/order"
)

// second is the engine to which the old ones go, and all that is put in meanwhile.
type second struct {
	once sync.Once
	// Nil, till the first timer goes to it.
	engine *engine.Engine
}

// put lets one pend that is not old. Its place is one of the pair's, at which none
// pends: so the engine does not refuse it.
func (p *Pair) put(t api.Timer) {
	if p.second == nil {
		p.first.Insert(t)
		return
	}
	p.second.once.Do(func() {
		// Of all but the kind New was told that nothing is wrong, and of the kind Start.
		p.second.engine, _ = engine.New(p.kind, p.places, p.bits, p.base)
	})
	p.second.engine.Insert(t)
}

// take takes one out, old or not.
func (p *Pair) take(place int) (t api.Timer, e api.Errno) {
	for x := range p.engines() {
		if t, e = x.Cancel(place); e != api.ErrNone {
			break
		}
	}
	return t, e
}

// settle lets the second engine be the only one, if none is old.
func (p *Pair) settle() {
	if p.Left() == 0 && p.second != nil && p.second.engine != nil {
		p.first, p.second = p.second.engine, nil
	}
}

// merged is what each engine tells in order, all of it in order.
func (p *Pair) merged(told func(e *engine.Engine) []api.Timer) []api.Timer {
	var l [][]api.Timer
	for e := range p.engines() {
		l = append(l, told(e))
	}
	all, _ := order.Merge(l...)
	return all
}

// engines are those in which timers may pend.
func (p *Pair) engines() iter.Seq[*engine.Engine] {
	if p.second == nil {
		return each(p.first)
	}
	return each(p.first, p.second.engine)
}

// each tells one by one the engines that are made.
func each(engines ...*engine.Engine) iter.Seq[*engine.Engine] {
	return func(yield func(*engine.Engine) bool) {
		for _, e := range engines {
			if e != nil && !yield(e) {
				return
			}
		}
	}
}
