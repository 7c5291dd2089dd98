package pairheap

import (
	"cmp"
	"slices"
	"testing"

	"compline/api"
	"compline/queuetest"
	"compline/tick"
)

// sound tells whether none is before the one above it, whether each knows who
// stands beside it, and whether just the nodes of the places stand in the tree.
func sound(t *testing.T, q *Queue) {
	t.Helper()
	met := map[*node[api.Timer]]bool{}
	var look func(n *node[api.Timer])
	look = func(n *node[api.Timer]) {
		if met[n] || q.nodes[n.value.Place] != n {
			t.Fatalf("%v stands in the tree twice, or is not known", n.value)
		}
		met[n] = true
		back := n
		for x := range n.below() {
			if x.back != back || tick.Compare(x.value, n.value) < 0 {
				t.Fatalf("%v stands wrong below %v", x.value, n.value)
			}
			back = x
			look(x)
		}
	}
	if q.top != nil {
		if q.top.back != nil || q.top.beside != nil {
			t.Fatalf("something stands beside the top, %v", q.top.value)
		}
		look(q.top)
	}
	if len(met) != q.Len() {
		t.Fatalf("%d stand in the tree, %d pend", len(met), q.Len())
	}
}

// Whatever is done, a tree is what the timers are kept in.
func TestTreeIsSound(t *testing.T) {
	for _, places := range []int{1, 2, 3, 6, 7, 13, 40} {
		q, _ := New(places)
		o, _ := New(places)
		roll := queuetest.Dice(uint64(places))
		for range 20000 {
			x := api.Timer{At: uint64(roll(2 * places)), Seq: uint64(roll(3)), Place: roll(places)}
			switch roll(9) {
			case 0, 1, 2, 3:
				q.Insert(x)
			case 4, 5:
				q.Move(x)
			case 6:
				q.Cancel(x.Place)
			case 7:
				q.Due(uint64(roll(1 + places/4)))
			case 8:
				o.Insert(x)
				q.Meld(o)
			}
			sound(t, q)
			sound(t, o)
		}
	}
}

// family is a node with these right below it, from the left.
func family(above int, below ...int) *node[int] {
	n := &node[int]{value: above}
	for _, x := range slices.Backward(below) {
		n.bear(&node[int]{value: x})
	}
	return n
}

// under are those right below a node.
func under(n *node[int]) []int {
	var l []int
	for x := range n.below() {
		l = append(l, x.value)
	}
	return l
}

// The one whose top is later stands below the other one's top, the one that
// came last as the leftmost one.
func TestMelded(t *testing.T) {
	for _, x := range []struct {
		a, b  *node[int]
		top   int
		under []int
	}{
		{family(1, 4), family(2, 3), 1, []int{2, 4}},
		{family(2, 3), family(1, 4), 1, []int{2, 4}},
		{family(1, 4), nil, 1, []int{4}},
		{nil, family(1, 4), 1, []int{4}},
	} {
		if n := melded(x.a, x.b, cmp.Compare[int]); n.value != x.top || !slices.Equal(under(n), x.under) {
			t.Errorf("%d above %v; want %d above %v", n.value, under(n), x.top, x.under)
		}
	}
	if n := melded(nil, nil, cmp.Compare[int]); n != nil {
		t.Errorf("of nothing: %v", n.value)
	}
}

// What stands below is melded two and two, from the left, and then all, from
// the right.
func TestGathered(t *testing.T) {
	for _, x := range []struct {
		below []int
		met   [][2]int
	}{
		{nil, nil},
		{[]int{4}, nil},
		{[]int{4, 2}, [][2]int{{2, 4}}},
		{[]int{4, 2, 3}, [][2]int{{2, 4}, {2, 3}}},
		{[]int{4, 2, 3, 5}, [][2]int{{2, 4}, {3, 5}, {2, 3}}},
		{[]int{6, 7, 5, 4, 3}, [][2]int{{6, 7}, {4, 5}, {3, 4}, {3, 6}}},
		{[]int{6, 1, 2, 5, 3, 4}, [][2]int{{1, 6}, {2, 5}, {3, 4}, {2, 3}, {1, 2}}},
		{[]int{1, 6, 5, 2, 7, 4, 3}, [][2]int{{1, 6}, {2, 5}, {4, 7}, {3, 4}, {2, 3}, {1, 2}}},
	} {
		var met [][2]int
		n := family(0, x.below...)
		all := gathered(n, func(a, b int) int {
			met = append(met, [2]int{min(a, b), max(a, b)})
			return a - b
		})
		if !slices.Equal(met, x.met) {
			t.Errorf("%v: melded are %v; want %v", x.below, met, x.met)
		}
		if (all == nil) != (len(x.below) == 0) || all != nil && all.value != slices.Min(x.below) {
			t.Errorf("%v: the top is %v", x.below, all)
		}
		if len(under(n)) != 0 {
			t.Errorf("%v: below it is still %v", x.below, under(n))
		}
	}
}

// Whichever one leaves, the others stand as they stood.
func TestLeave(t *testing.T) {
	for i := range 4 {
		l := []int{1, 2, 3, 4}
		n := family(0, l...)
		for x := range n.below() {
			if x.value == l[i] {
				x.leave()
				if x.back != nil || x.beside != nil {
					t.Errorf("%d still knows others", x.value)
				}
				break
			}
		}
		if want := slices.Delete(l, i, i+1); !slices.Equal(under(n), want) {
			t.Errorf("%v; want %v", under(n), want)
		}
	}
}
