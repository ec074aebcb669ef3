package tests

import (
	"fmt"
	"math/rand"
	"slices"
	"testing"

	"loop.example/g00886/impl"
)

// invalidStates returns states with one fault each for campBoard.
func invalidStates() []impl.State {
	var list []impl.State
	add := func(change func(s *impl.State)) {
		s := campState()
		change(&s)
		list = append(list, s)
	}
	far := append([]int{1 << 32, -1 << 32}, outside...)
	for _, n := range append([]int{11, 31}, far...) {
		add(func(s *impl.State) { s.Turn = n })
	}
	for _, n := range append([]int{3, 4}, far...) {
		add(func(s *impl.State) { s.Weather = n })
	}
	for _, u := range []int{0, 3, 8} {
		for _, n := range append([]int{2, 3}, far...) {
			add(func(s *impl.State) { s.Units[u].Side = n })
		}
		for _, n := range append([]int{3, 4}, far...) {
			add(func(s *impl.State) { s.Units[u].Kind = n })
		}
		for _, n := range append([]int{5, 6}, far...) {
			add(func(s *impl.State) { s.Units[u].Steps = n })
		}
		for _, n := range append([]int{8, 9, -2}, far...) {
			if n != -1 {
				add(func(s *impl.State) { s.Units[u].At = n })
			}
		}
	}
	// A closed hex, no steps on the map, both sides, too many in a hex, and too
	// many units.
	for _, x := range []impl.Unit{unit(0, 0, 5, 1), unit(0, 0, 3, 1), unit(0, 2, 7, 1), unit(0, 1, 7, 1), unit(0, 0, 7, 0), unit(1, 0, 4, 1), unit(0, 0, 0, 1)} {
		add(func(s *impl.State) { s.Units = append(s.Units, x) })
		add(func(s *impl.State) { s.Units[7] = x })
	}
	for n := 4; n <= 20; n++ {
		add(func(s *impl.State) {
			s.Units = append(s.Units, slices.Repeat([]impl.Unit{unit(0, 0, -1, 1)}, n)...)
		})
	}
	return list
}

// wantHexCallsFail requires every function with a hex and a side to fail.
func wantHexCallsFail(t *testing.T, what string, b impl.Board, s impl.State, side, i int) {
	t.Helper()
	n, ok := impl.StackRoom(b, s, side, i)
	wantZero(t, fmt.Sprint("StackRoom ", side, i, what), ok, n)
	n, ok = impl.StrengthAt(b, s, side, i)
	wantZero(t, fmt.Sprint("StrengthAt ", side, i, what), ok, n)
}

func wantUnitCallsFail(t *testing.T, what string, b impl.Board, s impl.State, u int) {
	t.Helper()
	for n := -1; n <= 5; n++ {
		x, ok := impl.PlaceUnit(b, s, u, n)
		wantZero(t, fmt.Sprint("PlaceUnit ", u, n, what), ok, x)
		x, ok = impl.LoseSteps(b, s, u, n)
		wantZero(t, fmt.Sprint("LoseSteps ", u, n, what), ok, x)
	}
}

// wantAllCallsFail requires every function with a state, but IsState, to fail.
func wantAllCallsFail(t *testing.T, what string, b impl.Board, s impl.State) {
	t.Helper()
	for i := -1; i <= 4; i++ {
		list, ok := impl.UnitsAt(b, s, i)
		wantZero(t, fmt.Sprint("UnitsAt ", i, what), ok, list)
		owner, ok := impl.OwnerOf(b, s, i)
		wantZero(t, fmt.Sprint("OwnerOf ", i, what), ok, owner)
		for side := range 2 {
			wantHexCallsFail(t, what, b, s, side, i)
		}
	}
	for side := -1; side <= 2; side++ {
		list, ok := impl.UnitsOf(b, s, side)
		wantZero(t, fmt.Sprint("UnitsOf ", side, what), ok, list)
	}
	for u := -1; u <= 3; u++ {
		wantUnitCallsFail(t, what, b, s, u)
	}
	m, n, ok := impl.CountSteps(b, s)
	wantZero(t, "CountSteps"+what, ok, m, n)
	swapped, ok := impl.SwapSides(b, s)
	wantZero(t, "SwapSides"+what, ok, swapped)
	text, ok := impl.StateText(b, s)
	wantZero(t, "StateText"+what, ok, text)
}

func TestInvalidStates(t *testing.T) {
	for _, s := range invalidStates() {
		wantState(t, campBoard(), s, false)
		wantAllCallsFail(t, fmt.Sprint(" of ", s), campBoard(), s)
	}
}

func TestStatesOnInvalidBoards(t *testing.T) {
	states := []impl.State{stateOf(), stateOf(unit(0, 0, -1, 1)), stateOf(unit(0, 0, 0, 1), unit(1, 0, -1, 1)), {Turn: -1}}
	for _, b := range invalidBoards() {
		what := fmt.Sprint(" on ", b)
		for _, s := range states {
			is, ok := impl.IsState(b, s)
			wantZero(t, "IsState"+what, ok, is)
			wantAllCallsFail(t, what, b, s)
		}
		for _, text := range []string{"", "turn 0 weather 0\n", "turn 0 weather 0\n0 foot - 1\n", "turn 0 weather 0\n0 foot 0 1\n", "turn 0 weather 0\nfly\n",
			"turn 0 weather 0\n0  - 1\n", campText} {
			s, ok := impl.ParseState(b, text)
			wantZero(t, fmt.Sprintf("ParseState(%q)%s", text, what), ok, s)
		}
	}
}

func TestInvalidSidesOfStates(t *testing.T) {
	for _, p := range positions()[:20] {
		for _, side := range append([]int{2, 3, 256, 1 << 32}, outside...) {
			list, ok := impl.UnitsOf(p.board, p.state, side)
			wantZero(t, fmt.Sprint("UnitsOf ", side), ok, list)
			for i := range p.board.Map.Terrain {
				wantHexCallsFail(t, "", p.board, p.state, side, i)
			}
			wantHexCallsFail(t, "", p.board, p.state, side, side)
		}
	}
}

func TestInvalidHexesOfStates(t *testing.T) {
	for _, p := range positions()[:20] {
		n := len(p.board.Map.Terrain)
		for _, i := range append([]int{n, n + 1, -2, -n - 1, 1 << 32}, outside...) {
			list, ok := impl.UnitsAt(p.board, p.state, i)
			wantZero(t, fmt.Sprint("UnitsAt ", i), ok, list)
			owner, ok := impl.OwnerOf(p.board, p.state, i)
			wantZero(t, fmt.Sprint("OwnerOf ", i), ok, owner)
			for side := range 2 {
				wantHexCallsFail(t, "", p.board, p.state, side, i)
			}
			for u := range p.state.Units {
				if i != -1 {
					x, ok := impl.PlaceUnit(p.board, p.state, u, i)
					wantZero(t, fmt.Sprint("PlaceUnit ", u, i), ok, x)
				}
			}
		}
	}
}

func TestInvalidUnitsOfStates(t *testing.T) {
	for _, p := range positions()[:50] {
		n := len(p.state.Units)
		for _, u := range append([]int{n, n + 1, 12, 13, -n, 1 << 32}, outside...) {
			if u < 0 || u >= n {
				wantUnitCallsFail(t, "", p.board, p.state, u)
			}
		}
	}
}

func TestInvalidLosses(t *testing.T) {
	for _, p := range positions()[:50] {
		for u := range p.state.Units {
			for _, n := range append([]int{5, 6, -2, 1 << 32}, outside...) {
				x, ok := impl.LoseSteps(p.board, p.state, u, n)
				wantZero(t, fmt.Sprint("LoseSteps ", u, n), ok, x)
			}
		}
	}
}

// stateWithSpare returns a state with units behind the length of its list that
// would be valid.
func stateWithSpare(s impl.State) impl.State {
	s.Units = slices.Concat(s.Units, []impl.Unit{unit(0, 0, -1, 1), unit(1, 0, 0, 1), unit(1, 0, -1, 0)})[:len(s.Units)]
	return s
}

func wholeState(s impl.State) string {
	return fmt.Sprint(s.Turn, s.Weather, len(s.Units), s.Units[:cap(s.Units)])
}

func overwriteState(s impl.State) {
	units := s.Units[:cap(s.Units)]
	for n := range units {
		units[n] = unit(-99, -99, -99, -99)
	}
}

// callAllOnState calls every function of the chapter, and overwrites and extends
// the results.
func callAllOnState(b impl.Board, s impl.State) {
	impl.IsState(b, s)
	impl.CountSteps(b, s)
	for i := -1; i <= len(b.Map.Terrain); i++ {
		list, _ := impl.UnitsAt(b, s, i)
		overwrite(list)
		impl.OwnerOf(b, s, i)
		for side := -1; side <= 2; side++ {
			impl.StackRoom(b, s, side, i)
			impl.StrengthAt(b, s, side, i)
		}
		for u := -1; u <= len(s.Units); u++ {
			placed, _ := impl.PlaceUnit(b, s, u, i)
			overwriteState(placed)
		}
	}
	for side := -1; side <= 2; side++ {
		list, _ := impl.UnitsOf(b, s, side)
		overwrite(list)
	}
	for u := -1; u <= len(s.Units); u++ {
		for n := -1; n <= 5; n++ {
			less, _ := impl.LoseSteps(b, s, u, n)
			overwriteState(less)
		}
	}
	swapped, _ := impl.SwapSides(b, s)
	overwriteState(swapped)
	text, _ := impl.StateText(b, s)
	read, _ := impl.ParseState(b, text)
	overwriteState(read)
}

// wantPositionsUnchanged requires calls to change neither the positions of a
// list nor those that are not valid, nor what lies behind their lists.
func wantPositionsUnchanged(t *testing.T, list []position, callAll func(b impl.Board, s impl.State)) {
	t.Helper()
	for _, s := range invalidStates() {
		list = append(list, position{campBoard(), s})
	}
	for _, b := range invalidBoards() {
		list = append(list, position{b, stateOf(unit(0, 0, 0, 1))})
	}
	for _, p := range list {
		b, s := boardWithSpare(p.board), stateWithSpare(p.state)
		keptBoard, keptState := wholeOf(b), wholeState(s)
		callAll(b, s)
		if now := wholeOf(b); now != keptBoard {
			t.Fatalf("%s is changed to %s", keptBoard, now)
		}
		if now := wholeState(s); now != keptState {
			t.Fatalf("%s is changed to %s", keptState, now)
		}
	}
}

func TestStatesAreNotChanged(t *testing.T) {
	wantPositionsUnchanged(t, positions()[:60], callAllOnState)
}

// What lies behind the lists of a board and of a state plays no part.
func TestSpareUnitsAreNotRead(t *testing.T) {
	for _, p := range positions()[:100] {
		b, s := boardWithSpare(p.board), stateWithSpare(p.state)
		wantState(t, b, s, true)
		if text, ok := impl.StateText(b, s); !ok || text != writtenState(p.board, p.state) {
			t.Errorf("StateText with spare units: %q, %v", text, ok)
		}
		if stepsOf(t, b, s) != stepsOf(t, p.board, p.state) {
			t.Errorf("spare units of %v are counted", s)
		}
		for i := range b.Map.Terrain {
			wantHex(t, position{b, s}, i)
		}
		wantUnitCallsFail(t, " with spare units", b, s, len(s.Units))
		wantNoState(t, b, writtenState(p.board, p.state)+"0 spare - 0\n")
	}
	wantState(t, boardWithSpare(exampleBoard()), stateOf(unit(0, 1, -1, 1)), false)
	wantState(t, boardWithSpare(exampleBoard()), stateOf(unit(0, 0, 3, 1)), false)
}

// stateCalls are the functions that return a state.
func stateCalls(b impl.Board, s impl.State) map[string]func() (impl.State, bool) {
	text := writtenState(b, s)
	return map[string]func() (impl.State, bool){
		"PlaceUnit":                func() (impl.State, bool) { return impl.PlaceUnit(b, s, 0, -1) },
		"PlaceUnit where it is":    func() (impl.State, bool) { return impl.PlaceUnit(b, s, 0, s.Units[0].At) },
		"LoseSteps":                func() (impl.State, bool) { return impl.LoseSteps(b, s, 0, 1) },
		"LoseSteps without a loss": func() (impl.State, bool) { return impl.LoseSteps(b, s, 0, 0) },
		"SwapSides":                func() (impl.State, bool) { return impl.SwapSides(b, s) },
		"ParseState":               func() (impl.State, bool) { return impl.ParseState(b, text) },
	}
}

// wantNewState makes a call with a state three times, overwrites and extends the
// first result, and requires the others and the given state to stay as they are.
func wantNewState(t *testing.T, name string, s impl.State, call func() (impl.State, bool)) {
	t.Helper()
	kept := copyState(s)
	first, ok := call()
	second, ok2 := call()
	want := copyState(second)
	overwriteState(first)
	third, ok3 := call()
	if !ok || !ok2 || !ok3 || !sameState(second, want) || !sameState(third, want) || !sameState(s, kept) {
		t.Fatalf("%s of %v: %v and %v after the first result was overwritten, want %v", name, kept, second, third, want)
	}
}

// A state that is returned shares no memory with the given one, nor with another
// result, also where nothing changes.
func TestChangedStatesAreNew(t *testing.T) {
	for _, p := range positions() {
		if len(p.state.Units) == 0 {
			continue
		}
		for name, call := range stateCalls(p.board, p.state) {
			wantNewState(t, name, p.state, call)
		}
	}
}

func TestListsOfUnitsAreNew(t *testing.T) {
	b, s := campBoard(), campState()
	wantNewLists(t, map[string]func() ([]int, bool){
		"UnitsAt": func() ([]int, bool) { return impl.UnitsAt(b, s, 0) },
		"UnitsOf": func() ([]int, bool) { return impl.UnitsOf(b, s, 0) },
	})
	if !sameState(s, campState()) {
		t.Errorf("the state itself is changed: %v", s)
	}
}

// Any numbers are accepted without a panic.
func TestAnyNumbersForStates(t *testing.T) {
	random := rand.New(rand.NewSource(666))
	numbers := append([]int{0, 1, 2, 3, 5, 8, 12, 13, 1 << 32}, outside...)
	draw := func() int { return numbers[random.Intn(len(numbers))] }
	for range 20000 {
		b := campBoard()
		if random.Intn(2) == 0 {
			b.Map.Width, b.Rules.Stack, b.Map.Terrain[0], b.Rules.Turns = draw(), draw(), draw(), draw()
		}
		s := impl.State{Turn: draw(), Weather: draw()}
		for range random.Intn(4) {
			s.Units = append(s.Units, unit(draw(), draw(), draw(), draw()))
		}
		if impl.IsBoard(b) {
			wantState(t, b, s, validBySearch(b, s))
		} else {
			is, ok := impl.IsState(b, s)
			wantZero(t, "IsState on an invalid board", ok, is)
		}
		impl.UnitsAt(b, s, draw())
		impl.UnitsOf(b, s, draw())
		impl.OwnerOf(b, s, draw())
		impl.StackRoom(b, s, draw(), draw())
		impl.StrengthAt(b, s, draw(), draw())
		impl.PlaceUnit(b, s, draw(), draw())
		impl.LoseSteps(b, s, draw(), draw())
		impl.CountSteps(b, s)
		impl.SwapSides(b, s)
		impl.StateText(b, s)
		impl.ParseState(b, writtenState(b, s))
	}
}
