package moving

import (
	"slices"
	"testing"

	"compline/api"
	"compline/engine"
)

func tm(at uint64, place int) api.Timer { return api.Timer{At: at, Place: place} }

// begun is a pair with a list, in which timers of these ticks pend, place by place, and
// are old: they are to go to a heap, one at a time. One more place is free.
func begun(t *testing.T, ats ...uint64) *Pair {
	t.Helper()
	p, e := New(api.KindList, len(ats)+1, 3, 7, 1)
	if e != api.OK {
		t.Fatal(e)
	}
	for place, at := range ats {
		if e := p.Insert(tm(at, place)); e != api.OK {
			t.Fatal(e)
		}
	}
	if e := p.Start(api.KindHeap); e != api.OK {
		t.Fatal(e)
	}
	return p
}

// engines holds the kinds of a pair's engines against those that are wanted.
func engines(t *testing.T, p *Pair, behind string, want ...int) {
	t.Helper()
	var l []int
	for e := range p.engines() {
		l = append(l, e.Kind())
	}
	if !slices.Equal(l, want) {
		t.Errorf("behind %s: engines of the kinds %v; want %v", behind, l, want)
	}
}

// Neither Start makes the second engine, nor what is refused or only asks, nor what
// takes timers out and lets none go.
func TestNotMadeAhead(t *testing.T) {
	p := begun(t, 5, 4, 3)
	engines(t, p, "Start", api.KindList)
	for _, place := range []int{-1, 4} {
		p.Insert(tm(1, place))
		p.Cancel(place)
		p.Move(tm(1, place))
	}
	p.Insert(tm(1, 0))
	p.Cancel(3)
	p.Move(tm(1, 3))
	p.Start(api.KindWheel)
	p.Start(9)
	p.Get(0)
	p.Min()
	p.Len()
	p.All()
	p.Due(4)
	engines(t, p, "what lets none go", api.KindList)
	p.Cancel(0)
	engines(t, p, "Cancel of the only one", api.KindList)
	p.Step()
	engines(t, p, "a Step of none", api.KindList)
}

// The first timer that goes to the second engine makes it; and when none is old, it is
// the only one.
func TestMade(t *testing.T) {
	for name, do := range map[string]func(p *Pair){
		"Step":                 func(p *Pair) { p.Step() },
		"Insert":               func(p *Pair) { p.Insert(tm(9, 3)) },
		"Cancel":               func(p *Pair) { p.Cancel(0) },
		"Move":                 func(p *Pair) { p.Move(tm(9, 0)) },
		"Due of one, and Step": func(p *Pair) { p.Due(3); p.Step() },
	} {
		p := begun(t, 5, 4, 3)
		do(p)
		engines(t, p, name, api.KindList, api.KindHeap)
		for p.Left() > 0 {
			p.Step()
		}
		engines(t, p, name+", and Steps", api.KindHeap)
	}
}

// For each Start the engine is made but once: what goes to it stays in it.
func TestMadeOnce(t *testing.T) {
	p := begun(t, 5, 4, 3, 2, 1)
	p.Step()
	once := p.second.engine
	p.Insert(tm(9, 5))
	p.Move(tm(8, 0))
	if p.second.engine != once || p.Left() != 1 {
		t.Errorf("another engine; %d left", p.Left())
	}
	p.Cancel(3)
	if p.first != once || p.second != nil {
		t.Errorf("when none is old, it is not the only one")
	}
	p.Insert(tm(7, 3))
	if p.first != once {
		t.Errorf("behind Insert another engine")
	}
	if e := p.Start(api.KindHeap); e != api.OK || p.second != nil {
		t.Errorf("Start of the pair's own kind: %v", e)
	}
	p.Start(api.KindList)
	p.Step()
	if p.first != once || p.second.engine == nil || p.second.engine == once {
		t.Errorf("the next Start's engine is not another one")
	}
}

// Nothing went to the engine of one Start, when the next one comes: the first timer goes
// to that one's.
func TestStartAgain(t *testing.T) {
	for _, then := range []int{api.KindList, api.KindHash} {
		p := begun(t, 5)
		p.Due(5)
		if e := p.Start(then); e != api.OK {
			t.Errorf("Start(%d): %v", then, e)
		}
		p.Insert(tm(9, 0))
		engines(t, p, "Insert", then)
	}
}

// When the last old ones are due, the second engine is the only one.
func TestDueSettles(t *testing.T) {
	p := begun(t, 2, 3, 4)
	p.Insert(tm(9, 3))
	p.Due(4)
	engines(t, p, "Due", api.KindHeap)
}

// What is made later on begins where the ticks have come to, and no tick takes it back.
func TestBase(t *testing.T) {
	p := begun(t, 5, 4)
	for _, x := range [][2]uint64{{0, 7}, {6, 7}, {8, 8}, {90, 90}, {80, 90}, {api.Never, api.Never}, {3, api.Never}} {
		if p.Due(x[0]); p.base != x[1] {
			t.Errorf("Due(%d): base %d; want %d", x[0], p.base, x[1])
		}
	}
}

// Engines are told one by one, till nobody asks for more; those that are not made, not.
func TestEach(t *testing.T) {
	var l []*engine.Engine
	for _, kind := range []int{api.KindHash, api.KindPair} {
		e, _ := engine.New(kind, 1, 1, 0)
		l = append(l, e)
	}
	for most, want := range [][]*engine.Engine{nil, l[:1], l, l} {
		var told []*engine.Engine
		for e := range each(nil, l[0], nil, l[1], nil) {
			if len(told) == most {
				break
			}
			told = append(told, e)
		}
		if !slices.Equal(told, want) {
			t.Errorf("%d of them: %v", most, told)
		}
	}
	for range each() {
		t.Error("of none one is told")
	}
}
