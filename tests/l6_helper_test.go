package tests

import (
	"fmt"
	"math/rand"
	"slices"
	"testing"

	"loop.example/g00886/impl"
)

func unit(side, kind, at, steps int) impl.Unit {
	return impl.Unit{Side: side, Kind: kind, At: at, Steps: steps}
}

// stateOf returns the state of the first turn and clear weather with units.
func stateOf(units ...impl.Unit) impl.State {
	return impl.State{Units: units}
}

// campBoard returns a board with land for foot, with sea for boat and with a rock
// that is closed for every kind; post enters nothing.
//
//	0 plain  1 plain  2 wood  3 sea
//	4 plain  5 rock   6 sea   7 plain
func campBoard() impl.Board {
	return impl.Board{
		Rules: impl.Rules{
			Terrains: []impl.Terrain{
				{Name: "plain", Cost: []int{1, 0, 0}},
				{Name: "wood", Cost: []int{2, 0, 0}, Shift: -1, Blocks: true},
				{Name: "sea", Cost: []int{0, 9, 0}},
				{Name: "rock", Cost: []int{0, 0, 0}, Height: 3, Blocks: true},
			},
			Kinds: []impl.Kind{
				{Name: "foot", Strength: 3, Moves: 3, Steps: 4, Zone: true, View: 1},
				{Name: "boat", Strength: 5, Moves: 6, Steps: 2, View: 2},
				{Name: "post", Strength: 1, Steps: 1},
			},
			Stack: 2, River: 1, Road: 1, Supply: 5, Turns: 10,
		},
		Map: impl.Map{Width: 4, Height: 2, Terrain: []int{0, 0, 1, 2, 0, 3, 2, 0}},
	}
}

// campState returns a state with one and two units in a hex, and with units that
// are not on the map, with and without steps.
func campState() impl.State {
	return impl.State{Turn: 4, Weather: 1, Units: []impl.Unit{
		unit(0, 0, 0, 4), unit(1, 0, 2, 1), unit(0, 0, 0, 3), unit(0, 0, -1, 2), unit(1, 1, 3, 2),
		unit(1, 2, -1, 1), unit(0, 0, 4, 1), unit(1, 0, -1, 0), unit(0, 1, 6, 1),
	}}
}

const campText = "turn 4 weather 1\n0 foot 0 4\n1 foot 2 1\n0 foot 0 3\n0 foot - 2\n1 boat 3 2\n" +
	"1 post - 1\n0 foot 4 1\n1 foot - 0\n0 boat 6 1\n"

// stackBoard returns a board with one hex, one kind and a limit of units in it.
func stackBoard(stack int) impl.Board {
	b := impl.Board{Rules: footRules(), Map: plainMap(1, 1)}
	b.Rules.Stack = stack
	return b
}

// validBySearch reads the definition of a state word by word.
func validBySearch(b impl.Board, s impl.State) bool {
	if s.Turn < 0 || s.Turn > b.Rules.Turns || s.Weather < 0 || s.Weather > 2 || len(s.Units) > 12 {
		return false
	}
	type place struct{ at, side int }
	stacks := map[place]int{}
	for _, u := range s.Units {
		if u.Side != 0 && u.Side != 1 || u.Kind < 0 || u.Kind >= len(b.Rules.Kinds) {
			return false
		}
		if u.Steps < 0 || u.Steps > b.Rules.Kinds[u.Kind].Steps {
			return false
		}
		if u.At == -1 {
			continue
		}
		if u.Steps == 0 || u.At < 0 || u.At >= len(b.Map.Terrain) || costAt(b, u.Kind, u.At) == 0 {
			return false
		}
		stacks[place{u.At, u.Side}]++
	}
	for p, n := range stacks {
		if n > b.Rules.Stack || stacks[place{p.at, 1 - p.side}] > 0 {
			return false
		}
	}
	return true
}

// unitsBySearch returns the units that a test picks.
func unitsBySearch(s impl.State, picks func(u impl.Unit) bool) []int {
	var list []int
	for n, u := range s.Units {
		if picks(u) {
			list = append(list, n)
		}
	}
	return list
}

// drawnBoard returns a board of any size, with any costs, steps and limits.
func drawnBoard(random *rand.Rand) impl.Board {
	r := fullRules()
	kinds := 1 + random.Intn(4)
	r.Terrains, r.Kinds = r.Terrains[:1+random.Intn(6)], r.Kinds[:kinds]
	for i := range r.Terrains {
		r.Terrains[i].Cost = make([]int, kinds)
		for k := range kinds {
			r.Terrains[i].Cost[k] = max(random.Intn(14)-4, 0)
		}
	}
	for k := range r.Kinds {
		r.Kinds[k].Strength, r.Kinds[k].Steps = 1+random.Intn(9), 1+random.Intn(4)
	}
	r.Stack, r.Turns = 1+random.Intn(4), 1+random.Intn(30)
	m := plainMap(1+random.Intn(10), 1+random.Intn(10))
	for i := range m.Terrain {
		m.Terrain[i] = random.Intn(len(r.Terrains))
	}
	return impl.Board{Rules: r, Map: m}
}

// drawnState returns a state that is valid for a board. Its units are in a few
// hexes, so that some are together.
func drawnState(random *rand.Rand, b impl.Board) impl.State {
	s := impl.State{Turn: random.Intn(b.Rules.Turns + 1), Weather: random.Intn(3)}
	for n := range random.Intn(13) {
		kind := random.Intn(len(b.Rules.Kinds))
		at := random.Intn(min(len(b.Map.Terrain), 8))
		s.Units = append(s.Units, unit(random.Intn(2), kind, at, random.Intn(b.Rules.Kinds[kind].Steps+1)))
		if !validBySearch(b, s) {
			s.Units[n].At = -1
		}
	}
	return s
}

type position struct {
	board impl.Board
	state impl.State
}

// positions returns boards with valid states: those of the examples, the bounds
// of the numbers, and drawn ones.
func positions() []position {
	far := impl.Board{Rules: fullRules(), Map: plainMap(10, 10)}
	list := []position{
		{campBoard(), campState()}, {campBoard(), stateOf()}, {exampleBoard(), stateOf(unit(0, 0, 2, 3))},
		{far, impl.State{Turn: 12, Weather: 2, Units: slices.Repeat([]impl.Unit{unit(1, 3, -1, 3)}, 12)}},
		{far, stateOf(unit(1, 0, 99, 4), unit(1, 1, 99, 1), unit(0, 1, 9, 2), unit(1, 0, 99, 4))},
		{stackBoard(4), stateOf(slices.Repeat([]impl.Unit{unit(1, 0, 0, 1)}, 4)...)},
	}
	random := rand.New(rand.NewSource(6))
	for range 400 {
		b := drawnBoard(random)
		list = append(list, position{b, drawnState(random, b)}, position{b, drawnState(random, b)})
	}
	return list
}

func copyState(s impl.State) impl.State {
	s.Units = slices.Clone(s.Units)
	return s
}

func sameState(x, y impl.State) bool {
	return x.Turn == y.Turn && x.Weather == y.Weather && slices.Equal(x.Units, y.Units)
}

// writtenState writes a state, also one that is not valid, as the document has
// it.
func writtenState(b impl.Board, s impl.State) string {
	text := fmt.Sprintln("turn", s.Turn, "weather", s.Weather)
	for _, u := range s.Units {
		name, at := "none", fmt.Sprint(u.At)
		if u.Kind >= 0 && u.Kind < len(b.Rules.Kinds) {
			name = b.Rules.Kinds[u.Kind].Name
		}
		if u.At == -1 {
			at = "-"
		}
		text += fmt.Sprintln(u.Side, name, at, u.Steps)
	}
	return text
}

// wantState requires IsState to succeed with a result.
func wantState(t *testing.T, b impl.Board, s impl.State, want bool) {
	t.Helper()
	if is, ok := impl.IsState(b, s); !ok || is != want {
		t.Errorf("IsState of %v on %v: %v, %v, want %v", s, b, is, ok, want)
	}
}

// wantChanged requires a call to succeed with a state that is valid.
func wantChanged(t *testing.T, call string, b impl.Board, s impl.State, ok bool, want impl.State) {
	t.Helper()
	if !ok || !sameState(s, want) {
		t.Errorf("%s: %v, %v, want %v", call, s, ok, want)
	}
	wantState(t, b, s, true)
}
