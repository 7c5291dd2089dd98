package moving_test

import (
	"fmt"
	"testing"

	"compline/api"
	"compline/moving"
	"compline/queuetest"
)

// restless is a pair that Starts and Steps by itself ahead of each call: whatever is
// told of timers must not show it.
type restless struct {
	pair *moving.Pair
	roll func(n int) int
}

// stir is mostly a Start, so that timers are on the way as often as may be: it is
// refused while some are old.
func (r *restless) stir() *moving.Pair {
	if r.roll(4) == 0 {
		r.pair.Step()
	} else {
		r.pair.Start(r.roll(5))
	}
	return r.pair
}

func (r *restless) Insert(t api.Timer) api.Errno { return r.stir().Insert(t) }

func (r *restless) Cancel(place int) (api.Timer, api.Errno) { return r.stir().Cancel(place) }

func (r *restless) Move(t api.Timer) api.Errno { return r.stir().Move(t) }

func (r *restless) Get(place int) (api.Timer, bool) { return r.stir().Get(place) }

func (r *restless) Min() (api.Timer, bool) { return r.stir().Min() }

func (r *restless) Due(now uint64) []api.Timer { return r.stir().Due(now) }

func (r *restless) Len() int { return r.stir().Len() }

func (r *restless) All() []api.Timer { return r.stir().All() }

// A pair is a queue, as chapter 7 says it: of each kind, while none moves.
func TestQueue(t *testing.T) {
	for _, kind := range kinds {
		for _, x := range queuetest.Checks(func(places int) (*moving.Pair, api.Errno) {
			return moving.New(kind, places, 2, 3, 1)
		}) {
			t.Run(fmt.Sprint(kind, x.Name), func(t *testing.T) {
				t.Parallel()
				x.Run(t)
			})
		}
	}
}

// Whether, when, and to which kind timers move, and how many at a time, makes no
// difference to what is told of them.
func TestQueueThatMoves(t *testing.T) {
	for _, step := range []int{1, 2, api.MaxStep} {
		for _, x := range queuetest.Checks(func(places int) (*restless, api.Errno) {
			roll := queuetest.Dice(uint64(step + places))
			p, e := moving.New(roll(5), places, 1+roll(6), uint64(roll(9)), step)
			if p == nil {
				return nil, e
			}
			return &restless{p, roll}, e
		}) {
			t.Run(fmt.Sprint(step, x.Name), func(t *testing.T) {
				t.Parallel()
				x.Run(t)
			})
		}
	}
}
