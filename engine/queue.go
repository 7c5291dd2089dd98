package engine

import (
	"compline/api"
	"compline/binheap"
	"compline/hashwheel"
	"compline/hierwheel"
	"compline/listq"
	"compline/pairheap"
)

// queue has the calls that the queues of all kinds have.
type queue interface {
	Insert(t api.Timer) api.Errno
	Cancel(place int) (api.Timer, api.Errno)
	Move(t api.Timer) api.Errno
	Get(place int) (api.Timer, bool)
	Min() (api.Timer, bool)
	Due(now uint64) []api.Timer
	Len() int
	All() []api.Timer
}

// makers are what makes a queue of each kind. Beside an error what they make is of
// no use: it is not even nil, as it is a nil pointer in an interface.
func makers(places, bits int, base uint64) map[int]func() (queue, api.Errno) {
	return map[int]func() (queue, api.Errno){
		api.KindList:  func() (queue, api.Errno) { return listq.New(places) },
		api.KindHeap:  func() (queue, api.Errno) { return binheap.New(places) },
		api.KindPair:  func() (queue, api.Errno) { return pairheap.New(places) },
		api.KindHash:  func() (queue, api.Errno) { return hashwheel.New(places, bits, base) },
		api.KindWheel: func() (queue, api.Errno) { return hierwheel.New(places, bits, base) },
	}
}

// takeAtOnce takes the first n out of a queue, of which it asks all at once.
func takeAtOnce(q queue, n int) []api.Timer {
	all := q.All()
	first := all[:max(0, min(n, len(all)))]
	for _, t := range first {
		q.Cancel(t.Place)
	}
	return first
}

// takeOneByOne takes the first n out of a queue, of which it asks each time for
// the one that is the first one then.
func takeOneByOne(q queue, n int) []api.Timer {
	var first []api.Timer
	for t, some := q.Min(); some && len(first) < n; t, some = q.Min() {
		q.Cancel(t.Place)
		first = append(first, t)
	}
	return first
}
