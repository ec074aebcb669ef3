package tests

import (
	"fmt"
	"math/rand"
	"slices"
	"testing"

	"loop.example/g00886/impl"
)

// wantZoneCallsFail requires every function with a side and a hex to fail.
func wantZoneCallsFail(t *testing.T, what string, b impl.Board, s impl.State, side, i int) {
	t.Helper()
	is, ok := impl.InZone(b, s, side, i)
	wantZero(t, fmt.Sprint("InZone ", side, " ", i, what), ok, is)
	list, ok := impl.ZoneSources(b, s, side, i)
	wantZero(t, fmt.Sprint("ZoneSources ", side, " ", i, what), ok, list)
}

// wantSideCallsFail requires every function with a side to fail.
func wantSideCallsFail(t *testing.T, what string, b impl.Board, s impl.State, side int) {
	t.Helper()
	list, ok := impl.ZoneHexes(b, s, side)
	wantZero(t, fmt.Sprint("ZoneHexes ", side, what), ok, list)
	for _, i := range []int{-1, 0, 1, len(b.Map.Terrain) - 1} {
		wantZoneCallsFail(t, what, b, s, side, i)
	}
}

// wantPlaceCallsFail requires every function with a unit and a hex to fail.
func wantPlaceCallsFail(t *testing.T, what string, b impl.Board, s impl.State, u, i int) {
	t.Helper()
	is, ok := impl.MustStop(b, s, u, i)
	wantZero(t, fmt.Sprint("MustStop ", u, " ", i, what), ok, is)
	for d := -1; d <= 6; d++ {
		is, ok = impl.StepAllowed(b, s, u, i, d)
		wantZero(t, fmt.Sprint("StepAllowed ", u, " ", i, " ", d, what), ok, is)
	}
}

// wantMoverFails requires every function with a unit to fail.
func wantMoverFails(t *testing.T, what string, b impl.Board, s impl.State, u int) {
	t.Helper()
	for _, i := range []int{-1, 0, 1, len(b.Map.Terrain) - 1} {
		wantPlaceCallsFail(t, what, b, s, u, i)
	}
	wantNoExits(t, b, s, u)
}

// wantFrontFails requires every function of the chapter to fail.
func wantFrontFails(t *testing.T, what string, b impl.Board, s impl.State) {
	t.Helper()
	for side := -1; side <= 2; side++ {
		wantSideCallsFail(t, what, b, s, side)
	}
	for u := -1; u <= len(s.Units) && u <= 13; u++ {
		wantMoverFails(t, what, b, s, u)
	}
	list, ok := impl.ContestedHexes(b, s)
	wantZero(t, "ContestedHexes"+what, ok, list)
	list, ok = impl.ControlMap(b, s)
	wantZero(t, "ControlMap"+what, ok, list)
	list, ok = impl.CountControlled(b, s)
	wantZero(t, "CountControlled"+what, ok, list)
}

func TestZonesInInvalidStates(t *testing.T) {
	for _, s := range invalidStates() {
		wantFrontFails(t, fmt.Sprint(" of ", s), campBoard(), s)
	}
}

func TestZonesOnInvalidBoards(t *testing.T) {
	for _, b := range invalidBoards() {
		for _, s := range []impl.State{stateOf(), stateOf(unit(0, 0, 0, 1), unit(1, 0, -1, 1)), {Turn: -1}} {
			wantFrontFails(t, fmt.Sprint(" on ", b), b, s)
		}
	}
}

// A state of one board may not be valid for another one.
func TestZonesOfStatesOfOtherBoards(t *testing.T) {
	s := stateOf(unit(0, guard, 8, 1))
	wantZone(t, plainFront(), s, 0, 5, 7)
	small := frontBoard(2, 0, 0, 0, 0)
	closed := plainFront()
	closed.Map.Terrain[8] = sea
	short := plainFront()
	short.Rules.Kinds[guard].Steps = 1
	for _, b := range []impl.Board{small, closed, {Rules: frontRules()}, {Map: plainMap(3, 3)}} {
		wantFrontFails(t, " on another board", b, s)
	}
	wantZone(t, short, s, 0, 5, 7)
	s.Units[0].Steps = 2
	wantFrontFails(t, " with too many steps", short, s)
}

func TestInvalidSidesOfZones(t *testing.T) {
	for _, p := range fronts()[:60] {
		for _, side := range append([]int{2, 3, 256, 1 << 32, -1 << 32}, outside...) {
			wantSideCallsFail(t, "", p.board, p.state, side)
		}
	}
}

func TestInvalidHexesOfZones(t *testing.T) {
	for _, p := range fronts()[:60] {
		n := len(p.board.Map.Terrain)
		for _, i := range append([]int{n, n + 1, -2, -n, 1 << 32, -1 << 32}, outside...) {
			for side := range 2 {
				wantZoneCallsFail(t, "", p.board, p.state, side, i)
			}
			for u := range p.state.Units {
				wantPlaceCallsFail(t, "", p.board, p.state, u, i)
			}
		}
	}
}

func TestInvalidUnitsOfZones(t *testing.T) {
	for _, p := range fronts()[:60] {
		n := len(p.state.Units)
		for _, u := range append([]int{n, n + 1, 13, 256, 1 << 32, -1 << 32}, outside...) {
			wantMoverFails(t, "", p.board, p.state, u)
		}
	}
}

func TestInvalidDirectionsOfSteps(t *testing.T) {
	for _, p := range fronts()[:60] {
		for u := range p.state.Units {
			for i := range p.board.Map.Terrain {
				for _, d := range append([]int{6, 7, -2, -6, 1 << 32, -1 << 32}, outside...) {
					is, ok := impl.StepAllowed(p.board, p.state, u, i, d)
					wantZero(t, fmt.Sprint("StepAllowed in direction ", d), ok, is)
				}
			}
		}
	}
}

// callAllOnFront calls every function of the chapter, and overwrites and extends
// the results.
func callAllOnFront(b impl.Board, s impl.State) {
	for _, call := range []func(impl.Board, impl.State) ([]int, bool){impl.ContestedHexes, impl.ControlMap, impl.CountControlled} {
		list, _ := call(b, s)
		overwrite(list)
	}
	for i := -1; i <= len(b.Map.Terrain); i++ {
		for side := -1; side <= 2; side++ {
			impl.InZone(b, s, side, i)
			list, _ := impl.ZoneSources(b, s, side, i)
			overwrite(list)
			list, _ = impl.ZoneHexes(b, s, side)
			overwrite(list)
		}
		for u := -1; u <= len(s.Units); u++ {
			impl.MustStop(b, s, u, i)
			for d := -1; d <= 6; d++ {
				impl.StepAllowed(b, s, u, i, d)
			}
		}
	}
	for u := -1; u <= len(s.Units); u++ {
		list, _ := impl.FreeExits(b, s, u)
		overwrite(list)
		impl.IsSurrounded(b, s, u)
	}
}

func TestZonesChangeNothing(t *testing.T) {
	wantPositionsUnchanged(t, fronts()[:120], callAllOnFront)
}

// What lies behind the lists of a board and of a state plays no part.
func TestSpareCapacityOfFronts(t *testing.T) {
	for _, p := range fronts()[:120] {
		b, s := boardWithSpare(p.board), stateWithSpare(p.state)
		wantSurvey(t, position{b, s})
		wantMoverFails(t, " with spare units", b, s, len(s.Units))
	}
	// A spare guard of side 1 in the hex 0, and a spare river on its edge.
	b := frontRow(0, 0, 0)
	b.Map.Rivers = []int{0, 3}[:0]
	s := stateWithSpare(stateOf(unit(0, guard, 0, 1)))
	s.Units[0].Side = 1
	wantZone(t, b, s, 1, 1)
	wantZone(t, b, s, 0)
	s.Units = s.Units[:0]
	wantZone(t, b, s, 1)
	wantControl(t, b, s, -1, -1, -1)
}

func TestListsOfZonesAreNew(t *testing.T) {
	b := plainFront()
	s := stateOf(unit(0, guard, 0, 2), unit(1, guard, 2, 1), unit(0, guard, 3, 1))
	wantNewLists(t, map[string]func() ([]int, bool){
		"ZoneHexes":       func() ([]int, bool) { return impl.ZoneHexes(b, s, 0) },
		"ZoneSources":     func() ([]int, bool) { return impl.ZoneSources(b, s, 0, 1) },
		"ContestedHexes":  func() ([]int, bool) { return impl.ContestedHexes(b, s) },
		"FreeExits":       func() ([]int, bool) { return impl.FreeExits(b, s, 0) },
		"ControlMap":      func() ([]int, bool) { return impl.ControlMap(b, s) },
		"CountControlled": func() ([]int, bool) { return impl.CountControlled(b, s) },
	})
	if !sameBoard(b, plainFront()) || !slices.Equal(s.Units, []impl.Unit{unit(0, guard, 0, 2), unit(1, guard, 2, 1), unit(0, guard, 3, 1)}) {
		t.Errorf("the board or the state is changed: %v, %v", b, s)
	}
}

// Any numbers are accepted without a panic, and results and failures are those
// of the definition.
func TestAnyNumbersForZones(t *testing.T) {
	random := rand.New(rand.NewSource(88))
	numbers := append([]int{0, 0, 1, 1, 2, 3, 4, 5, 6, 8, 9, 12, 1 << 32}, outside...)
	draw := func() int { return numbers[random.Intn(len(numbers))] }
	valid := 0
	for range 20000 {
		b := plainFront()
		if random.Intn(3) == 0 {
			b.Map.Width, b.Map.Rivers, b.Map.Roads = draw(), []int{draw()}, []int{draw(), draw()}
		}
		s := impl.State{}
		if random.Intn(3) == 0 {
			s.Turn, s.Weather = draw(), draw()
		}
		for range random.Intn(4) {
			s.Units = append(s.Units, unit(random.Intn(2), random.Intn(2), draw(), 1))
		}
		if random.Intn(3) == 0 {
			s.Units = append(s.Units, unit(draw(), draw(), draw(), draw()))
		}
		if impl.IsBoard(b) && validBySearch(b, s) {
			valid++
			if valid%20 == 0 {
				wantSurvey(t, position{b, s})
			}
		} else {
			wantFrontFails(t, "", b, s)
		}
		impl.InZone(b, s, draw(), draw())
		impl.ZoneHexes(b, s, draw())
		impl.ZoneSources(b, s, draw(), draw())
		impl.MustStop(b, s, draw(), draw())
		impl.StepAllowed(b, s, draw(), draw(), draw())
		impl.FreeExits(b, s, draw())
		impl.IsSurrounded(b, s, draw())
	}
	if valid < 1000 || valid > 15000 {
		t.Errorf("%d positions are valid", valid)
	}
}
