// Package queuetest has the checks that a queue must pass, whatever it keeps its
// timers in: the document says the same of the calls of all of them. And it has
// what a queue's own tests need: lists in order, and dice. Only tests call it.
package queuetest

import "compline/api"

// T is told what is wrong. A *testing.T is one: it is not named here, since the
// program's packages may not import it.
type T interface {
	Helper()
	Errorf(format string, args ...any)
	Fatalf(format string, args ...any)
}

// Queue has the calls that all queues have.
type Queue interface {
	Insert(t api.Timer) api.Errno
	Cancel(place int) (api.Timer, api.Errno)
	Move(t api.Timer) api.Errno
	Get(place int) (api.Timer, bool)
	Min() (api.Timer, bool)
	Due(now uint64) []api.Timer
	Len() int
	All() []api.Timer
}

// Check is one of the checks, by its name.
type Check struct {
	Name string
	Run  func(t T)
}

// Checks are all checks of the queues that a package's New makes.
func Checks[S any, Q interface {
	*S
	Queue
}](made func(places int) (Q, api.Errno)) []Check {
	fresh := func(places int) (Queue, api.Errno) {
		q, e := made(places)
		if q == nil {
			// A nil pointer in an interface would not be nil any more.
			return nil, e
		}
		return q, e
	}
	var l []Check
	for _, x := range []struct {
		name string
		run  func(t T, fresh maker)
	}{
		{"Example", checkExample},
		{"New", checkNew},
		{"AllStates", checkAllStates},
		{"AllWays", checkAllWays},
		{"LongWays", checkLongWays},
		{"FirstError", checkFirstError},
		{"NoPlaces", checkNoPlaces},
		{"Due", checkDue},
		{"DueLeavesPlaces", checkDueLeavesPlaces},
		{"MovedIsCancelledAndInserted", checkMoved},
		{"EachOrder", checkEachOrder},
		{"Most", checkMost},
		{"NothingShared", checkNothingShared},
		{"QueuesApart", checkQueuesApart},
	} {
		l = append(l, Check{x.name, func(t T) {
			t.Helper()
			x.run(t, fresh)
		}})
	}
	return l
}

// maker makes a queue of so many places.
type maker func(places int) (Queue, api.Errno)

// made is a queue that is asked for with a right argument.
func (fresh maker) made(t T, places int) Queue {
	t.Helper()
	q, e := fresh(places)
	if e != api.OK || q == nil {
		t.Fatalf("New(%d): %v, %v", places, q, e)
	}
	return q
}

// replayed is a queue, and a book, with which all of way was done.
func (fresh maker) replayed(t T, places int, way []call) (*Book, Queue) {
	t.Helper()
	b, q := NewBook(places), fresh.made(t, places)
	for _, x := range way {
		b.do(t, q, x)
	}
	return b, q
}
