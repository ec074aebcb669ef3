package tests

import (
	"fmt"
	"slices"
	"testing"

	"loop.example/g00886/impl"
)

// snakeBoard returns a board of ten by ten hexes with rocks, on which 20 steps
// lead from the hex 0 to snakeEnd, and one more to the hex behind it.
func snakeBoard() impl.Board {
	b := frontBoard(10, make([]int, 100)...)
	for q := range 10 {
		if q != 9 {
			b.Map.Terrain[10+q] = rock
		}
		if q != 0 {
			b.Map.Terrain[30+q] = rock
		}
	}
	return b
}

const snakeEnd = 40

// With exactly Supply steps, a unit is in supply, with one more it is not.
func TestSupplyIsJustEnough(t *testing.T) {
	for supply := range 10 {
		row := []int{0}
		for i := range 9 {
			x := rearOf(10, 0).having(unit(i%2, scout, i, 1)).within(supply)
			if i <= supply {
				wantSupplied(t, x, 0, row...)
				wantCuts(t, x, 0, row...)
			} else {
				wantUnsupplied(t, x, 0)
			}
			row = append(row, i+1)
		}
	}
	for supply := range 21 {
		for n, at := range []int{snakeEnd, snakeEnd + 1} {
			x := depot{snakeBoard(), stateOf(unit(1, guard, at, 1)), []int{0}}.within(supply)
			if supply < 20+n {
				wantUnsupplied(t, x, 0)
				continue
			}
			list, ok := x.path(0)
			if !ok || len(list) != 21 {
				t.Errorf("SupplyPath with 20 steps: %v, %v", list, ok)
			}
			margin, ok := x.margin(0)
			wantNumber(t, "SupplyMargin with 20 steps", margin, ok, 0)
		}
	}
}

// A unit on a source is in supply, whatever is around it.
func TestUnitsOnSources(t *testing.T) {
	for _, supply := range []int{0, 1, 20} {
		for side := range 2 {
			x := frontWith(unit(side, scout, middle, 1), unit(1-side, guard, 3, 1), unit(1-side, guard, 5, 1)).within(supply)
			wantSupplied(t, x.from(middle), 0, middle)
			wantSupplied(t, x.from(0, 1, middle, 6, 7, 8), 0, middle)
			wantCuts(t, x.from(middle), 0, middle)
			wantCuts(t, x.from(0, 1, middle, 6, 7, 8), 0, middle)
			n, ok := x.from(0, middle).margin(0)
			wantNumber(t, "SupplyMargin on a source", n, ok, supply)
			wantUnsupplied(t, x.from(2), 0)
		}
	}
	// The unit of the enemy on a source is in supply, too, but for its own side.
	x := frontWith(unit(0, guard, middle, 1), unit(1, scout, 3, 1)).from(3).within(1)
	wantSupplied(t, x, 1, 3)
	wantUnsupplied(t, x, 0)
}

// Units off the map are not in supply, with steps or without.
func TestSupplyOffTheMap(t *testing.T) {
	x := rearOf(3, 0, 1, 2).having(unit(0, guard, -1, 2), unit(1, scout, -1, 0), unit(0, scout, 1, 1))
	for u := range 2 {
		wantUnsupplied(t, x, u)
		for _, list := range [][]int{nil, {0}, {1}, {-1}, {0, -1}, {0, 1}} {
			wantChecked(t, x, u, false, list...)
		}
	}
	wantSupplied(t, x, 2, 1)
}

func TestSupplyWithoutSources(t *testing.T) {
	x := rearOf(3).having(unit(0, guard, 0, 2), unit(1, scout, 2, 1)).within(20)
	for u := range 2 {
		wantUnsupplied(t, x, u)
		wantChecked(t, x, u, false)
		wantChecked(t, x, u, false, x.state.Units[u].At)
	}
	wantUnits(t, x, 0)
	wantUnits(t, x, 1)
	wantLost(t, x, 0, unit(0, guard, 0, 1), unit(1, scout, 2, 1))
	wantLost(t, x, 1, unit(0, guard, 0, 2), unit(1, scout, -1, 0))
	// Nor without any units.
	wantUnits(t, x.having(), 0)
	wantLost(t, x.having(), 1)
}

// The hex of a unit is open for it in the zone of the other side, and so are
// those of other units of its side on the way.
func TestSupplyInTheZoneOfTheOtherSide(t *testing.T) {
	x := rearOf(5, 0).having(unit(0, guard, 2, 2), unit(1, guard, 3, 2))
	wantStop(t, x.board, x.state, 0, 2, true)
	wantSupplied(t, x, 0, 0, 1, 2)
	wantUnsupplied(t, x, 1)
	wantUnsupplied(t, x.from(4), 0)
	wantSupplied(t, x.from(4), 1, 4, 3)
	// The guard of side 1 in the middle controls all ways from 0 to 8 but those
	// that a unit keeps open.
	front := func(kept ...int) depot {
		x := frontWith(unit(1, guard, middle, 2), unit(0, guard, 8, 1)).from(0)
		for _, i := range kept {
			x.state.Units = append(x.state.Units, unit(0, scout, i, 1))
		}
		return x
	}
	wantUnsupplied(t, front(), 1)
	wantUnsupplied(t, front(1, 2), 1)
	wantUnsupplied(t, front(1, 5, 7), 1)
	wantSupplied(t, front(1, 2, 5), 1, 0, 1, 2, 5, 8)
	wantSupplied(t, front(3, 6, 7), 1, 0, 3, 6, 7, 8)
	wantSupplied(t, front(1, 2, 3, 5, 6, 7), 1, 0, 1, 2, 5, 8)
	wantSupplied(t, front(1, 2, 5), 0, 0, 3, 4)
	wantUnsupplied(t, front(1, 2, 3, 5), 0)
}

// A river keeps a way open, and a road over it does not.
func TestSupplyBehindARiver(t *testing.T) {
	x := frontWith(unit(1, guard, middle, 2), unit(0, scout, 2, 1)).from(0)
	wantUnsupplied(t, x, 1)
	x.board = riverBoard(2)
	wantSupplied(t, x, 1, 0, 1, 2)
	x.board = bridgeBoard(2)
	wantUnsupplied(t, x, 1)
	x.board = riverBoard(1)
	wantUnsupplied(t, x, 1)
}

// The kind of the unit decides what its way may lead through.
func TestSupplyOfKinds(t *testing.T) {
	b := frontBoard(3, plain, path, plain, plain, ridge, plain, sea, sea, sea)
	x := depot{b, stateOf(unit(0, guard, 2, 1), unit(1, scout, 1, 1)), []int{0}}
	wantSupplied(t, x, 0, 0, 3, 4, 2)
	wantSupplied(t, x, 1, 0, 1)
	x.state = stateOf(unit(0, scout, 2, 1), unit(1, boat, 7, 1))
	wantSupplied(t, x, 0, 0, 1, 2)
	wantUnsupplied(t, x, 1)
	wantSupplied(t, x.from(0, 2, 8), 1, 8, 7)
	wantSupplied(t, x.from(0, 2, 8), 0, 2)
	// The guard has a longer way than the scout.
	wantUnsupplied(t, x.having(unit(0, guard, 2, 1)).within(2), 0)
	wantSupplied(t, x.having(unit(0, scout, 2, 1)).within(2), 0, 0, 1, 2)
}

// Among several shortest paths, the first one is in the order of its hexes, not
// of the directions of its steps.
func TestFirstOfSupplyPaths(t *testing.T) {
	for _, c := range []struct {
		at      int
		sources []int
		want    []int
	}{
		{8, []int{0}, []int{0, 1, 2, 5, 8}},
		{0, []int{8}, []int{8, 5, 2, 1, 0}},
		// In direction 1 and then 0, or 0 and then 1.
		{2, []int{3}, []int{3, 1, 2}},
		{5, []int{6}, []int{6, 4, 5}},
		// In direction 2 and then 1, or 1 and then 2.
		{2, []int{7}, []int{7, 4, 2}},
		{3, []int{2}, []int{2, 1, 3}},
		{7, []int{2}, []int{2, 4, 7}},
		{5, []int{3}, []int{3, 4, 5}},
		// The source with the least index is farther away.
		{8, []int{0, 5}, []int{5, 8}},
		{8, []int{0, 1, 2, 6}, []int{2, 5, 8}},
		{3, []int{0, 3}, []int{3}},
		{5, []int{0, 1, 6, 7}, []int{7, 5}},
		// Of sources that are equally near, the least one begins it.
		{2, []int{0, 3, 4, 8}, []int{4, 2}},
		{5, []int{3, 6}, []int{3, 4, 5}},
		{6, []int{0, 2}, []int{0, 3, 6}},
		{0, []int{2, 4, 6}, []int{2, 1, 0}},
	} {
		wantSupplied(t, frontWith(unit(0, scout, c.at, 1)).from(c.sources...), 0, c.want...)
	}
	// Around a rock in the middle.
	b := frontBoard(3, 0, 0, 0, 0, rock, 0, 0, 0, 0)
	wantSupplied(t, depot{b, stateOf(unit(1, guard, 5, 1)), []int{3}}, 0, 3, 1, 2, 5)
	wantSupplied(t, depot{b, stateOf(unit(1, guard, 7, 1)), []int{1}}, 0, 1, 2, 5, 7)
	// The first hex of the first path is the first one, not the last one: 0 leads
	// over 5, and 1 over 4.
	long := frontBoard(4, 0, 0, rock, 0, 0, 0, 0, 0)
	wantSupplied(t, depot{long, stateOf(unit(0, guard, 6, 1)), []int{0, 1}}, 0, 1, 5, 6)
	wantSupplied(t, depot{long, stateOf(unit(0, guard, 5, 1)), []int{0, 3}}, 0, 0, 1, 5)
	wantSupplied(t, rearOf(7, 0, 5).having(unit(0, guard, 4, 1)), 0, 5, 4)
	wantSupplied(t, rearOf(7, 2, 6).having(unit(0, guard, 4, 1)), 0, 2, 3, 4)
	wantSupplied(t, rearOf(7, 1, 6).having(unit(0, guard, 4, 1)), 0, 6, 5, 4)
}

// A path is shorter than another one that would come before it.
func TestShortSupplyPathsComeFirst(t *testing.T) {
	// From 0, there are six steps along the top, and four from 12.
	b := frontBoard(4, 0, 0, 0, 0, 0, rock, rock, 0, 0, rock, rock, 0, 0, 0, 0, 0)
	x := depot{b, stateOf(unit(0, guard, 15, 1)), []int{0}}.within(20)
	wantSupplied(t, x, 0, 0, 1, 2, 3, 7, 11, 15)
	wantSupplied(t, x.from(0, 12), 0, 12, 13, 14, 15)
	wantSupplied(t, x.from(0, 8), 0, 8, 12, 13, 14, 15)
	wantSupplied(t, x.from(0, 4), 0, 4, 8, 12, 13, 14, 15)
	x.board.Map.Terrain[1] = rock
	wantSupplied(t, x, 0, 0, 4, 8, 12, 13, 14, 15)
	x.board.Map.Terrain[13] = rock
	wantUnsupplied(t, x, 0)
}

// The unit is in the hex 5 and the source is 3, at first.
func TestCheckSupplyPath(t *testing.T) {
	x := frontWith(unit(0, guard, 5, 1), unit(1, scout, 0, 1)).from(3).within(3)
	wantChecked(t, x, 0, true, 3, 4, 5)
	// Longer ones, with all the hexes that there may be.
	for _, list := range [][]int{{3, 1, 4, 5}, {3, 1, 2, 5}, {3, 4, 2, 5}, {3, 6, 4, 5}, {3, 6, 7, 5}, {3, 4, 7, 5}} {
		wantChecked(t, x, 0, true, list...)
		wantChecked(t, x.within(2), 0, false, list...)
	}
	// With one more: there and back, or around.
	for _, list := range [][]int{{3, 4, 3, 4, 5}, {3, 4, 5, 4, 5}, {3, 6, 7, 4, 5}, {3, 4, 7, 8, 5}, {3, 6, 4, 2, 5}} {
		wantChecked(t, x, 0, false, list...)
		wantChecked(t, x.within(4), 0, true, list...)
	}
	// It begins with no source, or with one that is not its first one.
	for _, list := range [][]int{{4, 5}, {5}, {6, 4, 5}, {1, 4, 5}, {7, 5}, {1, 3, 4, 5}} {
		wantChecked(t, x, 0, false, list...)
	}
	wantChecked(t, x.from(1, 3, 6), 0, true, 6, 4, 5)
	wantChecked(t, x.from(1, 3, 6), 0, true, 6, 3, 4, 5)
	wantChecked(t, x.from(1, 3, 6), 0, true, 1, 2, 5)
	wantChecked(t, x.from(1, 3, 6), 0, false, 7, 5)
	// It ends elsewhere, also where the unit is on the way.
	for _, list := range [][]int{{3}, {3, 4}, {3, 4, 2}, {3, 4, 7}, {3, 4, 5, 4}, {3, 4, 5, 2}, {3, 1, 2}} {
		wantChecked(t, x, 0, false, list...)
	}
	// It skips a hex, stays in one, or turns back.
	for _, list := range [][]int{{3, 5}, {3, 3, 4, 5}, {3, 4, 4, 5}, {3, 4, 5, 5}, {3, 2, 5}, {3, 7, 5}, {3, 8, 5}, {3, 1, 5}, {5, 4, 3}} {
		wantChecked(t, x, 0, false, list...)
	}
	// Hexes at the end of one row and the beginning of the next one are apart.
	wantChecked(t, x.from(2), 0, true, 2, 5)
	wantChecked(t, x.from(2), 0, false, 2, 3, 4, 5)
	wantChecked(t, x.from(6), 0, false, 6, 5)
}

// A path through a hex that is blocked, or that the kind cannot enter, is none.
func TestCheckSupplyPathsThroughClosedHexes(t *testing.T) {
	x := frontWith(unit(0, guard, 5, 1), unit(1, scout, middle, 1)).from(3, 6)
	wantChecked(t, x, 0, false, 3, 4, 5)
	wantChecked(t, x, 0, true, 3, 1, 2, 5)
	wantChecked(t, x, 0, true, 6, 7, 5)
	// The zone of the guard in 0 has the hexes 1 and 3.
	x = frontWith(unit(0, guard, 5, 1), unit(1, guard, 0, 1)).from(3, 6)
	wantChecked(t, x, 0, false, 3, 4, 5)
	wantChecked(t, x, 0, false, 6, 3, 4, 5)
	wantChecked(t, x, 0, false, 6, 3, 1, 2, 5)
	wantChecked(t, x, 0, true, 6, 4, 5)
	x.state.Units = append(x.state.Units, unit(0, scout, 3, 1))
	wantChecked(t, x, 0, true, 3, 4, 5)
	wantChecked(t, x, 0, true, 6, 3, 4, 5)
	wantChecked(t, x, 0, false, 3, 1, 2, 5)
	// The scout cannot enter the ridge in the middle, nor the guard the path in 2.
	b := frontBoard(3, plain, plain, path, plain, ridge, plain, plain, plain, plain)
	y := depot{b, stateOf(unit(0, guard, 5, 1), unit(0, scout, 3, 1)), []int{1, 7}}
	wantChecked(t, y, 0, true, 7, 5)
	wantChecked(t, y, 0, true, 7, 4, 5)
	wantChecked(t, y, 0, true, 1, 4, 5)
	wantChecked(t, y, 0, false, 1, 2, 5)
	wantChecked(t, y, 1, true, 1, 3)
	wantChecked(t, y, 1, true, 7, 6, 3)
	wantChecked(t, y, 1, false, 7, 4, 3)
	wantChecked(t, y.from(2), 1, true, 2, 1, 3)
	wantChecked(t, y.from(2), 0, false, 2, 5)
	wantChecked(t, y.from(middle), 1, false, middle, 3)
	wantChecked(t, y.from(middle), 0, true, middle, 5)
}

// Any list is accepted: hexes that are none of the map make no path.
func TestCheckAnyListOfHexes(t *testing.T) {
	x := frontWith(unit(0, guard, 5, 1)).from(3).within(20)
	wantChecked(t, x, 0, false)
	for _, n := range append([]int{9, 10, 14, 100, -2, -3, 3 + 1<<32, 4 + 1<<32, 5 + 1<<32, -1 << 32}, outside...) {
		for _, list := range [][]int{{n}, {n, 5}, {3, n}, {3, n, 5}, {3, 4, n}, {n, 4, 5}, {n, 3, 4, 5}, {3, 4, 5, n}, {3, n, 4, 5}, {3, 4, n, 5}, {n, n, n}} {
			wantChecked(t, x, 0, false, list...)
		}
	}
	long := slices.Concat(slices.Repeat([]int{3, 4}, 9), []int{3, 4, 5})
	wantChecked(t, x, 0, true, long...)
	wantChecked(t, x.within(19), 0, false, long...)
	wantChecked(t, x, 0, false, slices.Concat([]int{3, 4}, long)...)
	wantChecked(t, x, 0, false, slices.Repeat([]int{3, 4}, 5000)...)
	wantChecked(t, x.within(0), 0, false, 3, 4, 5)
	wantChecked(t, x.within(0).from(5), 0, true, 5)
	wantChecked(t, x.within(0).from(5), 0, false, 5, 5)
}

func TestSuppliedUnits(t *testing.T) {
	x := rearOf(9, 0).having(
		unit(0, scout, 5, 1), unit(1, guard, 7, 1), unit(0, guard, -1, 2), unit(0, guard, 5, 2), unit(0, scout, 0, 1),
		unit(1, scout, 8, 1), unit(0, guard, 4, 1), unit(1, scout, -1, 0))
	wantUnits(t, x, 0, 0, 3, 4, 6)
	wantUnits(t, x, 1)
	wantUnits(t, x.within(4), 0, 4, 6)
	wantUnits(t, x.within(0), 0, 4)
	wantUnits(t, x.from(8), 0)
	wantUnits(t, x.from(8), 1, 1, 5)
	wantUnits(t, x.from(8).within(0), 1, 5)
	wantUnits(t, x.from(4, 7), 0, 0, 3, 4, 6)
	wantUnits(t, x.from(4, 7), 1, 1, 5)
	wantUnits(t, x.from(6), 0)
	wantUnits(t, x.from(6), 1)
	// An enemy on the only way is in supply itself.
	x = rearOf(9, 0).having(unit(0, scout, 4, 1), unit(1, scout, 2, 1))
	wantUnits(t, x, 0)
	wantUnits(t, x, 1, 1)
}

// All paths that there are follow from trying all lists.
func TestSupplyPathsByTryingAllLists(t *testing.T) {
	counts := map[bool]int{}
	tried := 0
	for _, x := range depots() {
		if len(x.board.Map.Terrain) > 6 || len(x.state.Units) == 0 {
			continue
		}
		tried++
		x = x.within(tried % 4)
		l := ledgerOf(x)
		for u := range x.state.Units {
			counts[wantListsTried(t, l, u)]++
		}
	}
	if counts[true] < 50 || counts[false] < 50 {
		t.Errorf("units in supply and others: %v", counts)
	}
}

// wantListsTried tries the shorter lists first, in their order, and reports
// whether a unit is in supply.
func wantListsTried(t *testing.T, l ledger, u int) bool {
	t.Helper()
	found := false
	for length := range l.board.Rules.Supply + 3 {
		for _, list := range patterns(length, len(l.next)) {
			want := l.isPathBySearch(u, list)
			wantChecked(t, l.depot, u, want, list...)
			if want && !found {
				found = true
				wantSupplied(t, l.depot, u, list...)
			}
		}
	}
	if !found {
		wantUnsupplied(t, l.depot, u)
	}
	return found
}

// All results are those of the definitions.
func TestSupplyBySearch(t *testing.T) {
	supplied, longest := map[bool]int{}, 0
	for _, x := range depots() {
		l := ledgerOf(x)
		wantLedger(t, l)
		for u := range x.state.Units {
			supplied[l.length(u) >= 0]++
			longest = max(longest, l.length(u))
		}
	}
	if supplied[true] < 300 || supplied[false] < 300 || longest < 6 {
		t.Errorf("units in supply and others: %v, the longest path has %d steps", supplied, longest)
	}
}

// wantPromised requires what the promise of the chapter says of a unit.
func wantPromised(t *testing.T, x depot, u int) {
	t.Helper()
	list, ok := x.path(u)
	is, fine := x.supplies(u)
	if !fine || is != ok {
		t.Errorf("unit %d in %v: InSupply %v, %v, but SupplyPath %v", u, x, is, fine, ok)
	}
	if !ok {
		return
	}
	v := x.state.Units[u]
	wantChecked(t, x, u, true, list...)
	distances, _ := x.distances(v.Side, v.Kind)
	wantNumber(t, fmt.Sprint("the steps of the path of unit ", u, " in ", x), len(list)-1, ok, distances[v.At])
	cuts, ok := x.cuts(u)
	if !ok || !slices.Contains(cuts, v.At) {
		t.Errorf("CutHexes of unit %d in %v: %v, %v", u, x, cuts, ok)
	}
	for _, i := range cuts {
		if !slices.Contains(list, i) {
			t.Errorf("the cut %d of unit %d in %v is not on the path %v", i, u, x, list)
		}
	}
}

// A supply path is checked and as long as the distance, and hexes that cut are on
// it.
func TestSupplyPathsAreAsLongAsTheDistance(t *testing.T) {
	for _, x := range depots() {
		for u := range x.state.Units {
			wantPromised(t, x, u)
		}
	}
}

// With more sources, no unit is farther away.
func TestMoreSourcesAreNotFarther(t *testing.T) {
	for _, x := range depots() {
		for u := range x.state.Units {
			for n := range x.sources {
				less, ok := x.from(x.sources[:n]...).margin(u)
				more, fine := x.margin(u)
				if ok && (!fine || more < less) {
					t.Errorf("SupplyMargin of unit %d in %v: %d, %v, but %d from %v", u, x, more, fine, less, x.sources[:n])
				}
			}
		}
	}
}
