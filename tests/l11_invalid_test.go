package tests

import (
	"fmt"
	"math/rand"
	"slices"
	"testing"

	"loop.example/g00886/impl"
)

// wantKindFails, wantSideFails and wantUnitFails require the functions with a
// kind, with a side or with a unit to fail.
func wantKindFails(t *testing.T, x depot, side, kind int) {
	t.Helper()
	list, ok := x.distances(side, kind)
	wantZero(t, fmt.Sprint("SupplyDistances of side ", side, " and kind ", kind, " in ", x), ok, list)
}

func wantSideFails(t *testing.T, x depot, side int) {
	t.Helper()
	what := fmt.Sprint(" of side ", side, " in ", x)
	list, ok := x.units(side)
	wantZero(t, "SuppliedUnits"+what, ok, list)
	lost, ok := x.lose(side)
	wantZero(t, "LoseUnsupplied"+what, ok, lost)
	for _, kind := range []int{-1, 0, 1, len(x.board.Rules.Kinds)} {
		wantKindFails(t, x, side, kind)
	}
}

func wantUnitFails(t *testing.T, x depot, u int) {
	t.Helper()
	what := fmt.Sprint(" of unit ", u, " in ", x)
	is, ok := x.supplies(u)
	wantZero(t, "InSupply"+what, ok, is)
	list, ok := x.path(u)
	wantZero(t, "SupplyPath"+what, ok, list)
	for _, l := range someLists() {
		is, ok = x.check(u, l)
		wantZero(t, fmt.Sprint("CheckSupplyPath ", l, what), ok, is)
	}
	list, ok = x.cuts(u)
	wantZero(t, "CutHexes"+what, ok, list)
	n, ok := x.margin(u)
	wantZero(t, "SupplyMargin"+what, ok, n)
}

// wantDepotFails requires every function to fail that takes sources.
func wantDepotFails(t *testing.T, x depot) {
	t.Helper()
	for side := -1; side <= 2; side++ {
		wantSideFails(t, x, side)
	}
	for u := -1; u <= len(x.state.Units) && u <= 13; u++ {
		wantUnitFails(t, x, u)
	}
}

func wantBlockedFails(t *testing.T, x depot, side, i int) {
	t.Helper()
	is, ok := x.blocked(side, i)
	wantZero(t, fmt.Sprint("SupplyBlocked of ", i, " for side ", side, " in ", x), ok, is)
}

// wantSupplyFails requires every function of the chapter to fail.
func wantSupplyFails(t *testing.T, x depot) {
	t.Helper()
	wantDepotFails(t, x)
	for side := -1; side <= 2; side++ {
		for _, i := range []int{-1, 0, 1, len(x.board.Map.Terrain) - 1} {
			wantBlockedFails(t, x, side, i)
		}
	}
}

func TestSupplyInInvalidStates(t *testing.T) {
	for _, s := range invalidStates() {
		for _, sources := range [][]int{nil, {0}, {0, 4}} {
			wantSupplyFails(t, depot{campBoard(), s, sources})
		}
	}
}

func TestSupplyOnInvalidBoards(t *testing.T) {
	for _, b := range invalidBoards() {
		for _, s := range []impl.State{stateOf(), stateOf(unit(0, 0, 0, 1), unit(1, 0, -1, 1)), {Turn: -1}} {
			wantSupplyFails(t, depot{b, s, nil})
			wantSupplyFails(t, depot{b, s, []int{0}})
		}
	}
}

// A state of one board, and its sources, may not be valid for another one.
func TestSupplyOnOtherBoards(t *testing.T) {
	x := depot{plainFront(), stateOf(unit(0, guard, 8, 1)), []int{8}}
	wantSupplied(t, x, 0, 8)
	closed := plainFront()
	closed.Map.Terrain[8] = sea
	for _, b := range []impl.Board{frontBoard(2, 0, 0, 0, 0), closed, {Rules: frontRules()}, {Map: plainMap(3, 3)}} {
		wantSupplyFails(t, depot{b, x.state, x.sources})
	}
	wantDepotFails(t, depot{frontBoard(2, 0, 0, 0, 0), stateOf(unit(0, guard, 3, 1)), x.sources})
	wantLengths(t, depot{closed, stateOf(), x.sources}, 0, boat, -1, -1, -1, -1, -1, -1, -1, -1, 0)
}

func TestSupplyOfInvalidSides(t *testing.T) {
	for _, x := range depots()[:60] {
		for _, side := range append([]int{2, 3, 256, 1 << 32, 1 + 1<<32, -1 << 32}, outside...) {
			wantSideFails(t, x, side)
			for i := range x.board.Map.Terrain {
				wantBlockedFails(t, x, side, i)
			}
		}
	}
}

func TestSupplyOfInvalidKinds(t *testing.T) {
	for _, x := range depots()[:60] {
		for _, kind := range append([]int{len(x.board.Rules.Kinds), 4, 5, -2, 1 << 32, -1 << 32}, outside...) {
			for side := range 2 {
				wantKindFails(t, x, side, kind)
			}
		}
	}
}

func TestSupplyOfInvalidUnits(t *testing.T) {
	for _, x := range depots()[:60] {
		n := len(x.state.Units)
		for _, u := range append([]int{n, n + 1, 12, 13, 256, -2, 1 << 32, -1 << 32}, outside...) {
			wantUnitFails(t, x, u)
		}
	}
}

func TestInvalidHexesOfSupply(t *testing.T) {
	for _, x := range depots()[:60] {
		n := len(x.board.Map.Terrain)
		for _, i := range append([]int{n, n + 1, 100, -2, -n, 1 << 32, -1 << 32}, outside...) {
			for side := range 2 {
				wantBlockedFails(t, x, side, i)
			}
			wantDepotFails(t, x.from(i))
		}
	}
}

// supplied returns a depot on a plain of ten by ten hexes, with units of both
// sides, of which the first one is in supply from the hex 0.
func supplied() depot {
	units := []impl.Unit{unit(0, guard, 1, 2), unit(1, guard, 99, 1), unit(0, scout, -1, 1)}
	return depot{frontBoard(10, make([]int, 100)...), stateOf(units...), []int{0}}
}

// Sources are hexes of the map, strictly increasing.
func TestInvalidSources(t *testing.T) {
	x := supplied()
	for _, sources := range [][]int{
		{1, 0}, {0, 0}, {0, 1, 1}, {0, 2, 1}, {0, 5, 3}, {0, 5, 0}, {5, 4, 3}, {0, 1, 2, 3, 5, 5}, {0, 1, 2, 3, 5, 4}, {1, 0, 2, 3, 4, 5},
		{100}, {0, 100}, {0, 99, 100}, {-2, 0}, {-1}, {-1, 0, 1}, {0, -1}, {0, 1, -1}, {0, 1 << 32}, {-1 << 32, 0}, {0, 1 + 1<<32},
	} {
		wantDepotFails(t, x.from(sources...))
	}
	for _, n := range outside {
		for _, sources := range [][]int{{n}, {0, n}, {n, 0}, {0, n, 1}, {0, 1, 2, 3, 4, n}} {
			wantDepotFails(t, x.from(sources...))
		}
	}
	// The last hex of the map is one.
	wantSupplied(t, x.from(0, 99), 0, 0, 1)
	wantSupplied(t, x.from(0, 99), 1, 99)
}

// There may be no sources, and six, but not seven.
func TestNumberOfSources(t *testing.T) {
	x := supplied()
	var sources []int
	for n := range 100 {
		if n > 6 {
			wantDepotFails(t, x.from(sources...))
		} else if n > 0 {
			wantSupplied(t, x.from(sources...), 0, sources[:1]...)
		} else {
			wantUnsupplied(t, x.from(), 0)
		}
		// The first one is the hex of the unit.
		sources = append(sources, n+1)
	}
	wantDepotFails(t, x.from(slices.Repeat([]int{0}, 1000)...))
	wantDepotFails(t, x.from(1, 2, 3, 4, 5, 6, 6))
	wantDepotFails(t, x.from(94, 95, 96, 97, 98, 99, 100))
	wantUnits(t, x.from(94, 95, 96, 97, 98, 99), 1, 1)
	wantLost(t, x.from(94, 95, 96, 97, 98, 99), 0, unit(0, guard, 1, 1), unit(1, guard, 99, 1), unit(0, scout, -1, 1))
}

// callAllOnDepot calls every function of the chapter, and overwrites and extends
// the results.
func callAllOnDepot(x depot, list []int) {
	for side := -1; side <= 2; side++ {
		for i := -1; i <= len(x.board.Map.Terrain); i++ {
			x.blocked(side, i)
		}
		for kind := -1; kind <= len(x.board.Rules.Kinds); kind++ {
			l, _ := x.distances(side, kind)
			overwrite(l)
		}
		l, _ := x.units(side)
		overwrite(l)
		lost, _ := x.lose(side)
		overwriteState(lost)
	}
	for u := -1; u <= len(x.state.Units); u++ {
		x.supplies(u)
		x.check(u, list)
		x.margin(u)
		l, _ := x.path(u)
		x.check(u, l)
		overwrite(l)
		l, _ = x.cuts(u)
		overwrite(l)
	}
}

func TestSupplyChangesNothing(t *testing.T) {
	var list []position
	for _, x := range depots()[30:150] {
		list = append(list, position{x.board, x.state})
	}
	random := rand.New(rand.NewSource(111))
	calls := 0
	wantPositionsUnchanged(t, list, func(b impl.Board, s impl.State) {
		calls++
		sources, list := slices.Concat(someLists()[calls%8], []int{7, 8, 9}), slices.Concat(someLists()[calls%7], []int{5, 6})
		if calls%2 == 0 && len(b.Map.Terrain) > 0 {
			sources = append(drawnSources(random, b), 4, 5, 6)
		}
		kept, keptList := slices.Clone(sources), slices.Clone(list)
		callAllOnDepot(depot{b, s, sources[:len(sources)-3]}, list[:len(list)-2])
		if !slices.Equal(sources, kept) || !slices.Equal(list, keptList) {
			t.Fatalf("the sources %v are changed to %v, or the list %v to %v", kept, sources, keptList, list)
		}
	})
}

// What lies behind the lists of a board, of a state and of sources, and behind a
// list that is checked, plays no part.
func TestSpareCapacityOfSupply(t *testing.T) {
	for _, x := range depots()[30:200] {
		spare := slices.Concat(x.sources, []int{-1, 0, 1})
		y := depot{boardWithSpare(x.board), stateWithSpare(x.state), spare[:len(x.sources)]}
		wantLedger(t, ledgerOf(y))
		wantUnitFails(t, y, len(x.state.Units))
		wantKindFails(t, y, 0, len(x.board.Rules.Kinds))
	}
	x := rearOf(4, []int{0, 3}[:1]...).having(unit(0, guard, 3, 1)).within(2)
	wantUnsupplied(t, x, 0)
	wantUnsupplied(t, x.from([]int{3}[:0]...), 0)
	wantSupplied(t, x.from([]int{0, 3}[1:]...), 0, 3)
	list := []int{0, 1, 2, 3, 2, 3}
	wantChecked(t, x.within(5), 0, true, list[:4]...)
	wantChecked(t, x.within(5), 0, false, list[:3]...)
	wantChecked(t, x.within(5), 0, false, list[:5]...)
	wantChecked(t, x.within(5), 0, true, list...)
	// A spare unit of the enemy blocks nothing.
	s := stateOf(unit(0, guard, 3, 1), unit(1, guard, 1, 1))
	s.Units = s.Units[:1]
	wantSupplied(t, depot{x.board, s, []int{2}}, 0, 2, 3)
}

func TestListsOfSupplyAreNew(t *testing.T) {
	b := plainFront()
	units := []impl.Unit{unit(0, guard, 5, 2), unit(1, scout, middle, 1), unit(0, guard, 3, 1)}
	x := depot{b, stateOf(slices.Clone(units)...), []int{3}}
	wantNewLists(t, map[string]func() ([]int, bool){
		"SupplyDistances":        func() ([]int, bool) { return x.distances(0, guard) },
		"SupplyPath":             func() ([]int, bool) { return x.path(0) },
		"SupplyPath of one hex":  func() ([]int, bool) { return x.path(2) },
		"SuppliedUnits":          func() ([]int, bool) { return x.units(0) },
		"CutHexes":               func() ([]int, bool) { return x.cuts(0) },
		"CutHexes of one source": func() ([]int, bool) { return x.cuts(2) },
	})
	if !sameBoard(b, plainFront()) || !slices.Equal(x.state.Units, units) || !slices.Equal(x.sources, []int{3}) {
		t.Errorf("the board, the state or the sources are changed: %v", x)
	}
}

// The state that LoseUnsupplied returns is new, also where nobody loses a step.
func TestStatesAfterLossesAreNew(t *testing.T) {
	same := 0
	for _, x := range depots()[30:200] {
		for side := range 2 {
			if len(x.state.Units) == 0 {
				continue
			}
			wantNewState(t, fmt.Sprint("LoseUnsupplied of side ", side), x.state, func() (impl.State, bool) { return x.lose(side) })
			if lost, _ := x.lose(side); sameState(lost, x.state) {
				same++
			}
		}
	}
	if same < 20 {
		t.Errorf("only %d states are the same", same)
	}
}

// isDepot reads word by word when the arguments that all functions have are
// valid.
func (x depot) isDepot() bool {
	if !impl.IsBoard(x.board) || !validBySearch(x.board, x.state) || len(x.sources) > impl.MaxSources {
		return false
	}
	for k, i := range x.sources {
		if i < 0 || i >= len(x.board.Map.Terrain) || slices.Contains(x.sources[:k], i) {
			return false
		}
	}
	return slices.IsSorted(x.sources)
}

// Any numbers are accepted without a panic, and results and failures are those of
// the definitions.
func TestAnyNumbersForSupply(t *testing.T) {
	random := rand.New(rand.NewSource(112))
	numbers := append([]int{0, 0, 1, 1, 2, 3, 4, 5, 6, 8, 9, 12, 20, 21, 1 << 32}, outside...)
	draw := func() int { return numbers[random.Intn(len(numbers))] }
	valid := 0
	for range 8000 {
		x := depot{plainFront(), impl.State{}, drawnSources(random, plainFront())}
		if random.Intn(3) == 0 {
			x.board.Map.Width, x.board.Map.Rivers, x.board.Map.Roads, x.board.Rules.Supply = draw(), []int{draw()}, []int{draw(), draw()}, draw()
		}
		for range random.Intn(4) {
			x.state.Units = append(x.state.Units, unit(random.Intn(2), random.Intn(2), random.Intn(10)-1, 1))
		}
		switch random.Intn(4) {
		case 0:
			x.sources = []int{draw(), draw(), draw()}
		case 1:
			x.state.Units = append(x.state.Units, unit(draw(), draw(), draw(), draw()))
		}
		if x.isDepot() {
			valid++
			wantLedger(t, ledgerOf(x))
		} else {
			wantDepotFails(t, x)
		}
		x.blocked(draw(), draw())
		x.distances(draw(), draw())
		x.check(draw(), []int{draw(), draw(), draw()})
		for _, u := range []int{draw(), 0} {
			x.supplies(u)
			x.path(u)
			x.cuts(u)
			x.margin(u)
		}
		x.units(draw())
		x.lose(draw())
	}
	if valid < 1000 || valid > 7000 {
		t.Errorf("%d depots are valid", valid)
	}
}
