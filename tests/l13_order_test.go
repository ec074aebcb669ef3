package tests

import (
	"fmt"
	"math/rand"
	"slices"
	"testing"

	"loop.example/g00886/impl"
)

// parade returns a position with units of both sides and two beside the map: on
// a row of plain hexes, side 0 has the units 0 and 3.
func parade() position {
	return position{frontRow(make([]int, 6)...), stateOf(unit(0, guard, 0, 2), unit(1, guard, 5, 1), unit(0, scout, -1, 1),
		unit(0, guard, 1, 1), unit(1, boat, -1, 0))}
}

func TestOrderCodes(t *testing.T) {
	codes := []int{impl.OrOK, impl.OrUnit, impl.OrTwice, impl.OrPath, impl.OrBudget, impl.OrAttack}
	if !slices.Equal(codes, []int{0, 1, 2, 3, 4, 5}) {
		t.Errorf("the codes are %v", codes)
	}
}

// An order is one of a unit of the side that is on the map.
func TestUnitsOfOrders(t *testing.T) {
	p := parade()
	for u, at := range map[int]int{0: 0, 1: 5, 3: 1} {
		wantOrder(t, p, order(u, -1), at, 0)
		wantFault(t, p, 1-p.state.Units[u].Side, order(u, -1), impl.OrUnit)
	}
	for side := range 2 {
		for _, u := range append([]int{2, 4, 5, 6, 12, 1 << 32, -1 << 32}, outside...) {
			wantFault(t, p, side, order(u, -1), impl.OrUnit)
			wantFault(t, p, side, order(u, 0, 0), impl.OrUnit)
		}
	}
}

// A path leads over the map, and over hexes that the kind can enter.
func TestPathsOfOrders(t *testing.T) {
	p := parade()
	wantOrder(t, p, order(0, -1, 0), 1, 1)
	wantOrder(t, p, order(0, -1, 0, 0, 0), 3, 3)
	wantOrder(t, p, order(3, -1, 3), 0, 1)
	wantOrder(t, p, order(1, -1, 3, 0, 3), 4, 3)
	for _, path := range [][]int{{1}, {2}, {3}, {4}, {5}, {0, 3, 3}, {0, 0, 5}} {
		wantFault(t, p, 0, order(0, -1, path...), impl.OrPath)
	}
	for _, d := range append([]int{6, 7, 1 << 32, -1 << 32, -6}, outside...) {
		for _, path := range [][]int{{d}, {d, 0}, {0, d}, {0, 0, d}, {0, 0, 0, d}, {1, d}} {
			wantFault(t, p, 0, order(0, -1, path...), impl.OrPath)
		}
	}
	// Closed hexes, for each kind others, among them the one behind an open one.
	q := position{frontRow(plain, ridge, path, sea, rock, sea, sea), stateOf(unit(0, guard, 1, 1), unit(1, scout, 2, 1), unit(0, boat, 3, 1), unit(0, guard, 0, 1), unit(1, boat, 5, 1))}.moving(9)
	wantOrder(t, q, order(0, -1, 3), 0, 1)
	wantOrder(t, q, order(3, -1, 0), 1, 9)
	wantOrder(t, q, order(4, -1, 0), 6, 2)
	for _, path := range [][]int{{0}, {3, 0, 0}} {
		wantFault(t, q, 0, order(0, -1, path...), impl.OrPath)
	}
	wantFault(t, q, 0, order(3, -1, 0, 0), impl.OrPath)
	for _, path := range [][]int{{0}, {3}, {0, 3}, {3, 3}} {
		wantFault(t, q, 1, order(1, -1, path...), impl.OrPath)
		wantFault(t, q, 0, order(2, -1, path...), impl.OrPath)
	}
	wantFault(t, q, 1, order(4, -1, 3), impl.OrPath)
	wantFault(t, q, 1, order(4, -1, 0, 3, 3), impl.OrPath)
}

// Units in the way and zones do not matter: a path may lead over both sides.
func TestPathsOverUnits(t *testing.T) {
	p := position{frontRow(make([]int, 4)...), stateOf(unit(0, guard, 0, 2), unit(1, guard, 1, 1), unit(0, guard, 2, 1), unit(1, guard, 3, 1))}
	wantOrder(t, p, order(0, -1, 0, 0, 0), 3, 3)
	wantOrder(t, p, order(0, 1), 0, 0)
	wantOrder(t, p, order(0, 2, 0), 1, 1)
	wantOrder(t, p, order(3, -1, 3, 3, 3), 0, 3)
}

// A path has up to nine steps, whatever the tenth one is.
func TestLengthsOfPathsOfOrders(t *testing.T) {
	p := position{frontRow(make([]int, 10)...), stateOf(unit(0, guard, 0, 2), unit(1, scout, 9, 1))}.moving(9)
	for n := range 30 {
		onwards, around := slices.Repeat([]int{0}, n), slices.Repeat([]int{3, 0}, n)[:n]
		if n <= 9 {
			wantOrder(t, p, order(0, -1, onwards...), n, n)
			wantOrder(t, p, order(1, -1, around...), 9-n%2, n)
		} else {
			wantFault(t, p, 0, order(0, -1, onwards...), impl.OrPath)
			wantFault(t, p, 1, order(1, -1, around...), impl.OrPath)
		}
	}
	wantFault(t, p, 0, order(0, -1, make([]int, 10000)...), impl.OrPath)
}

// The costs of paths of a guard on a row with rivers and roads, in the weathers 0,
// 1 and 2. The edges of a row are 0, 3, 6 and so on.
var paidPaths = []struct {
	rivers, roads []int
	path          []int
	costs         [3]int
}{
	{nil, nil, nil, [3]int{0, 0, 0}},
	{nil, nil, []int{0}, [3]int{1, 2, 3}},
	{nil, nil, []int{0, 0, 0}, [3]int{3, 6, 9}},
	{[]int{0}, nil, []int{0}, [3]int{3, 4, 5}},
	{nil, []int{0}, []int{0}, [3]int{1, 1, 2}},
	{[]int{0}, []int{0}, []int{0}, [3]int{1, 1, 2}},
	{[]int{3}, nil, []int{0, 0}, [3]int{4, 6, 8}},
	{[]int{3}, []int{0}, []int{0, 0}, [3]int{4, 5, 7}},
	{[]int{0, 3, 6}, []int{0, 3, 6}, []int{0, 0, 0}, [3]int{3, 3, 6}},
	{[]int{0}, nil, []int{0, 3}, [3]int{6, 8, 10}},
	{nil, []int{0, 3}, []int{0, 0, 3, 3, 0}, [3]int{5, 5, 10}},
}

// A path may cost exactly what the kind has as Moves, but no more.
func TestBudgetsOfOrders(t *testing.T) {
	for _, c := range paidPaths {
		b := withEdges(frontRow(make([]int, 4)...), c.rivers, c.roads)
		for weather, cost := range c.costs {
			end := 0
			for _, d := range c.path {
				end += 1 - 2*d/3
			}
			for moves := range 10 {
				p := position{b, stateOf(unit(1, guard, 0, 1))}.in(weather).moving(moves)
				o := order(0, -1, c.path...)
				if cost <= moves {
					wantOrder(t, p, o, end, cost)
				} else {
					wantFault(t, p, 1, o, impl.OrBudget)
				}
			}
		}
	}
}

// Moves are those of the kind of the unit, whose steps do not matter.
func TestBudgetsOfKinds(t *testing.T) {
	p := position{frontRow(make([]int, 8)...), stateOf(unit(0, guard, 0, 1), unit(0, guard, 0, 2), unit(0, scout, 0, 1))}
	for u, moves := range []int{3, 3, 5} {
		for n := range 8 {
			if o := order(u, -1, make([]int, n)...); n <= moves {
				wantOrder(t, p, o, n, n)
			} else {
				wantFault(t, p, 0, o, impl.OrBudget)
			}
		}
	}
}

// Attacks are on neighbours of the hex to which the path leads.
func TestAttacksOfOrders(t *testing.T) {
	p := position{plainFront(), stateOf(unit(0, guard, middle, 2), unit(1, guard, 0, 1), unit(0, guard, 2, 1))}
	for _, c := range []struct {
		u    int
		path []int
		end  int
		near []int
	}{
		{0, nil, middle, aroundMiddle}, {0, []int{0, 3}, middle, aroundMiddle}, {0, []int{0}, 5, []int{2, 4, 7, 8}}, {0, []int{4}, 6, []int{3, 4, 7}},
		{0, []int{5, 0}, 8, []int{5, 7}}, {0, []int{3, 2}, 0, []int{1, 3}}, {1, nil, 0, []int{1, 3}}, {1, []int{0}, 1, []int{0, 2, 3, 4}},
		{1, []int{5, 0}, middle, aroundMiddle}, {2, nil, 2, []int{1, 4, 5}}, {2, []int{5}, 5, []int{2, 4, 7, 8}},
	} {
		side := p.state.Units[c.u].Side
		for attack := -12; attack <= 21; attack++ {
			o := order(c.u, attack, c.path...)
			if attack == -1 || slices.Contains(c.near, attack) {
				wantOrder(t, p, o, c.end, len(c.path))
			} else {
				wantFault(t, p, side, o, impl.OrAttack)
			}
		}
		for _, attack := range append([]int{1 << 32, 1<<32 + c.near[0], -1 << 32}, outside...) {
			if attack != -1 {
				wantFault(t, p, side, order(c.u, attack, c.path...), impl.OrAttack)
			}
		}
	}
}

// What lies in the attacked hex does not matter: nobody, either side, a closed
// hex, or one beyond a river.
func TestAttackedHexes(t *testing.T) {
	b := frontRow(plain, rock, sea, plain, plain, plain)
	b.Map.Rivers = []int{6, 9, 12}
	p := position{b, stateOf(unit(0, guard, 3, 1), unit(0, guard, 4, 1), unit(1, guard, 5, 1), unit(0, guard, 0, 1))}
	for _, o := range []impl.Order{order(0, 2), order(0, 4), order(1, 3), order(1, 5), order(2, 4), order(3, 1)} {
		wantOrder(t, p, o, p.state.Units[o.Unit].At, 0)
	}
	wantOrder(t, p, order(1, 2, 3), 3, 3)
	wantFault(t, p, 0, order(3, 2), impl.OrAttack)
	wantFault(t, p, 0, order(1, 4, 3, 0), impl.OrBudget)
}

// The code that comes first in the document's order is the answer.
func TestFirstCodeOfOrders(t *testing.T) {
	p := parade()
	off := slices.Repeat([]int{1}, 10)
	for _, c := range []struct {
		o    impl.Order
		code int
	}{
		{order(1, 99, off...), impl.OrUnit}, {order(2, 99, off...), impl.OrUnit}, {order(-1, 99, off...), impl.OrUnit}, {order(5, -2, 0, 0, 0, 0), impl.OrUnit},
		{order(1, -1, 0), impl.OrUnit}, {order(1, 5), impl.OrUnit}, {order(2, 0, -1), impl.OrUnit},
		{order(0, 99, off...), impl.OrPath}, {order(0, 0, 3), impl.OrPath}, {order(0, 99, 0, 0, 0, 0, 0, 0), impl.OrPath}, {order(3, -2, 0, 0, 0, 0, 6), impl.OrPath},
		{order(0, -1, slices.Repeat([]int{0, 3}, 5)...), impl.OrPath}, {order(0, 99, 0, 0, 0, 0, -1), impl.OrPath},
		{order(0, 99, 0, 0, 0, 0), impl.OrBudget}, {order(0, 4, 0, 0, 0, 0), impl.OrBudget}, {order(3, -2, 0, 3, 0, 3), impl.OrBudget},
		{order(0, 3, 0, 0, 0), impl.OrAttack}, {order(3, -2), impl.OrAttack},
	} {
		wantFault(t, p, 0, c.o, c.code)
	}
}

// Drawn orders have the codes of the definition, each of them often.
func TestDrawnOrders(t *testing.T) {
	random := rand.New(rand.NewSource(131))
	counts := map[int]int{}
	for _, w := range offices() {
		for range 30 {
			side, o := random.Intn(2), anyOrder(random, w)
			wantAnyOrder(t, w, side, o)
			counts[w.codeBySearch(side, o)]++
		}
	}
	for _, code := range []int{impl.OrOK, impl.OrUnit, impl.OrPath, impl.OrBudget, impl.OrAttack} {
		if counts[code] < 100 {
			t.Errorf("only %d orders have the code %d: %v", counts[code], code, counts)
		}
	}
}

// Right orders are within the moves of their units, and their costs and ends are
// those of chapter 9.
func TestRightOrdersAreWithinMoves(t *testing.T) {
	random := rand.New(rand.NewSource(132))
	far := 0
	for _, w := range offices() {
		for _, u := range slices.Concat(w.unitsInPlay(0), w.unitsInPlay(1)) {
			o, v := drawnOrder(random, w, u), w.state.Units[u]
			cost, ok := w.cost(o)
			want, _ := impl.PathCost(w.board, v.Kind, w.state.Weather, v.At, o.Path)
			wantNumber(t, fmt.Sprint("OrderCost of ", o, " in ", w.position), cost, ok, want)
			if cost > w.board.Rules.Kinds[v.Kind].Moves {
				t.Errorf("%v in %v costs %d", o, w.position, cost)
			}
			end, ok := w.end(o)
			want, _, _ = impl.ReversePath(w.board, v.At, o.Path)
			wantNumber(t, fmt.Sprint("EndOf ", o, " in ", w.position), end, ok, want)
			if len(o.Path) > 3 {
				far++
			}
		}
	}
	if far < 50 {
		t.Errorf("only %d orders have more than three steps", far)
	}
}
