package tests

import (
	"math/rand"
	"slices"
	"testing"

	"loop.example/g00886/impl"
)

func TestStateLimits(t *testing.T) {
	if impl.MaxUnits != 12 || impl.MaxWeather != 2 {
		t.Error(impl.MaxUnits, impl.MaxWeather)
	}
}

func TestValidStates(t *testing.T) {
	for _, p := range positions() {
		wantState(t, p.board, p.state, true)
	}
	wantState(t, campBoard(), impl.State{}, true)
	wantState(t, campBoard(), impl.State{Units: []impl.Unit{}}, true)
}

func TestTurnsOfStates(t *testing.T) {
	for turns := 1; turns <= 30; turns++ {
		b := campBoard()
		b.Rules.Turns = turns
		for turn := -2; turn <= 33; turn++ {
			s := campState()
			s.Turn = turn
			wantState(t, b, s, 0 <= turn && turn <= turns)
			wantState(t, b, impl.State{Turn: turn}, 0 <= turn && turn <= turns)
		}
		for _, turn := range append([]int{1 << 32, -1 << 32}, outside...) {
			wantState(t, b, impl.State{Turn: turn}, false)
		}
	}
}

func TestWeatherOfStates(t *testing.T) {
	for weather := -2; weather <= 5; weather++ {
		s := campState()
		s.Weather = weather
		wantState(t, campBoard(), s, 0 <= weather && weather <= 2)
		wantState(t, exampleBoard(), impl.State{Weather: weather}, 0 <= weather && weather <= 2)
	}
	for _, weather := range append([]int{1 << 32, -1 << 32}, outside...) {
		wantState(t, campBoard(), impl.State{Weather: weather}, false)
	}
}

func TestSingleUnits(t *testing.T) {
	cases := []struct {
		unit impl.Unit
		want bool
	}{
		{unit(0, 0, 0, 1), true}, {unit(1, 0, 0, 1), true}, {unit(0, 0, 7, 4), true}, {unit(0, 1, 3, 2), true}, {unit(1, 1, 6, 1), true},
		{unit(0, 0, -1, 4), true}, {unit(0, 0, -1, 1), true}, {unit(0, 0, -1, 0), true}, {unit(1, 2, -1, 1), true}, {unit(1, 2, -1, 0), true},
		// Sides, kinds and steps beyond their ranges, on the map and not.
		{unit(-1, 0, 0, 1), false}, {unit(2, 0, 0, 1), false}, {unit(-1, 0, -1, 1), false}, {unit(2, 0, -1, 0), false},
		{unit(0, -1, 0, 1), false}, {unit(0, 3, 0, 1), false}, {unit(0, -1, -1, 1), false}, {unit(0, 3, -1, 0), false},
		{unit(0, 0, 0, 5), false}, {unit(0, 0, -1, 5), false}, {unit(0, 1, 3, 3), false}, {unit(0, 2, -1, 2), false},
		{unit(0, 0, 0, -1), false}, {unit(0, 0, -1, -1), false}, {unit(0, 2, -1, -1), false},
		// Hexes that do not exist or that the kind cannot enter.
		{unit(0, 0, -2, 1), false}, {unit(0, 0, 8, 1), false}, {unit(0, 0, -2, 0), false}, {unit(0, 0, 8, 0), false},
		{unit(0, 0, 3, 1), false}, {unit(0, 0, 5, 1), false}, {unit(0, 1, 0, 1), false}, {unit(0, 1, 5, 1), false}, {unit(0, 2, 0, 1), false},
		// On the map without steps.
		{unit(0, 0, 0, 0), false}, {unit(1, 1, 3, 0), false},
	}
	for _, c := range cases {
		wantState(t, campBoard(), stateOf(c.unit), c.want)
		whole := campState()
		whole.Units[7] = c.unit
		wantState(t, campBoard(), whole, c.want && c.unit.At != 0 && (c.unit.At != 3 || c.unit.Side == 1) && (c.unit.At != 6 || c.unit.Side == 0))
	}
}

// All numbers of a unit are tried together, those beyond their ranges too.
func TestEveryUnit(t *testing.T) {
	b := campBoard()
	for side := -1; side <= 2; side++ {
		for kind := -1; kind <= 3; kind++ {
			for at := -3; at <= 9; at++ {
				for steps := -1; steps <= 5; steps++ {
					s := stateOf(unit(side, kind, at, steps))
					wantState(t, b, s, validBySearch(b, s))
				}
			}
		}
	}
}

func TestUnitsFarOutside(t *testing.T) {
	for _, n := range append([]int{1 << 32, -1 << 32, 1<<32 + 1, 100, 256}, outside...) {
		wantState(t, campBoard(), stateOf(unit(n, 0, 0, 1)), false)
		wantState(t, campBoard(), stateOf(unit(0, n, 0, 1)), false)
		wantState(t, campBoard(), stateOf(unit(0, 0, n, 1)), n == -1)
		wantState(t, campBoard(), stateOf(unit(0, 0, 0, n)), false)
		wantState(t, campBoard(), stateOf(unit(0, 0, -1, n)), false)
		wantState(t, campBoard(), stateOf(unit(n, n, n, n)), false)
	}
}

func TestNumberOfUnits(t *testing.T) {
	b := impl.Board{Rules: footRules(), Map: plainMap(10, 2)}
	for n := range 20 {
		var placed []impl.Unit
		for i := range n {
			placed = append(placed, unit(i%2, 0, i, 1))
		}
		wantState(t, b, stateOf(placed...), n <= 12)
		wantState(t, b, stateOf(slices.Repeat([]impl.Unit{unit(0, 0, -1, 1)}, n)...), n <= 12)
		wantState(t, b, stateOf(slices.Repeat([]impl.Unit{unit(0, 0, -1, 0)}, n)...), n <= 12)
	}
	wantState(t, b, stateOf(make([]impl.Unit, 100000)...), false)
}

// Units of a side share a hex up to Stack, wherever they are in the list; those
// that are not on the map do not count.
func TestStacks(t *testing.T) {
	for stack := 1; stack <= 4; stack++ {
		b := stackBoard(stack)
		for n := range 7 {
			for off := range 6 {
				for side := range 2 {
					on := slices.Repeat([]impl.Unit{unit(side, 0, 0, 1)}, n)
					others := slices.Repeat([]impl.Unit{unit(0, 0, -1, 1), unit(1, 0, -1, 0)}, off)[:off]
					wantState(t, b, stateOf(slices.Concat(on, others)...), n <= stack)
					wantState(t, b, stateOf(slices.Concat(others, on)...), n <= stack)
					wantState(t, b, stateOf(slices.Concat(on[:n/2], others, on[n/2:])...), n <= stack)
				}
			}
		}
	}
}

// Stack counts the units of each hex for itself, whatever their kinds and steps.
func TestStacksOfSeveralHexes(t *testing.T) {
	r := fullRules()
	r.Stack = 2
	b := impl.Board{Rules: r, Map: plainMap(3, 1)}
	full := []impl.Unit{unit(0, 0, 0, 4), unit(1, 1, 1, 2), unit(0, 1, 2, 1), unit(0, 1, 0, 1), unit(1, 0, 1, 1), unit(0, 0, 2, 4)}
	wantState(t, b, stateOf(full...), true)
	for i := range 3 {
		for kind := range 2 {
			wantState(t, b, stateOf(append(slices.Clone(full), unit(i%2, kind, i, 1))...), false)
			wantState(t, b, stateOf(append([]impl.Unit{unit(i%2, kind, i, 1)}, full...)...), false)
		}
	}
}

func TestSidesInOneHex(t *testing.T) {
	for stack := 1; stack <= 4; stack++ {
		b := stackBoard(stack)
		wantState(t, b, stateOf(unit(0, 0, 0, 1), unit(1, 0, 0, 1)), false)
		wantState(t, b, stateOf(unit(1, 0, 0, 1), unit(0, 0, 0, 1)), false)
		wantState(t, b, stateOf(unit(1, 0, 0, 1), unit(1, 0, -1, 1), unit(0, 0, 0, 1)), false)
		wantState(t, b, stateOf(unit(1, 0, 0, 1), unit(0, 0, -1, 1)), true)
		wantState(t, b, stateOf(unit(1, 0, -1, 1), unit(0, 0, 0, 1)), true)
		wantState(t, b, stateOf(unit(1, 0, -1, 0), unit(0, 0, -1, 1)), true)
	}
	wantState(t, campBoard(), stateOf(unit(0, 0, 0, 1), unit(1, 0, 1, 1)), true)
	wantState(t, campBoard(), stateOf(unit(0, 0, 7, 1), unit(1, 0, 7, 1)), false)
}

// Units that are equal in every field are different units.
func TestEqualUnits(t *testing.T) {
	for stack := 1; stack <= 4; stack++ {
		b := stackBoard(stack)
		s := stateOf(slices.Repeat([]impl.Unit{unit(1, 0, 0, 1)}, stack)...)
		wantState(t, b, s, true)
		list, ok := impl.UnitsAt(b, s, 0)
		wantList(t, "UnitsAt with equal units", list, ok, []int{0, 1, 2, 3}[:stack])
		less, ok := impl.LoseSteps(b, s, stack-1, 1)
		want := copyState(s)
		want.Units[stack-1] = unit(1, 0, -1, 0)
		wantChanged(t, "LoseSteps with equal units", b, less, ok, want)
		off, ok := impl.PlaceUnit(b, s, 0, -1)
		want = copyState(s)
		want.Units[0].At = -1
		wantChanged(t, "PlaceUnit with equal units", b, off, ok, want)
	}
}

// Each list of two units with numbers in and near their ranges is tried.
func TestPairsOfUnits(t *testing.T) {
	for stack := 1; stack <= 2; stack++ {
		b := exampleBoard()
		b.Rules.Stack = stack
		var units []impl.Unit
		for side := range 3 {
			for at := -2; at <= 3; at++ {
				for steps := range 5 {
					units = append(units, unit(side, 0, at, steps))
				}
			}
		}
		for _, u := range units {
			for _, v := range units {
				s := stateOf(u, v)
				wantState(t, b, s, validBySearch(b, s))
			}
		}
	}
}

// Random states, of which some have a fault.
func TestRandomStates(t *testing.T) {
	random := rand.New(rand.NewSource(66))
	counts := map[bool]int{}
	for range 20000 {
		b := drawnBoard(random)
		s := drawnState(random, b)
		for n := range s.Units {
			if random.Intn(12) == 0 {
				s.Units[n].At = random.Intn(len(b.Map.Terrain)+3) - 2
			}
			if random.Intn(30) == 0 {
				s.Units[n].Side = random.Intn(4) - 1
			}
			if random.Intn(30) == 0 {
				s.Units[n].Steps = random.Intn(7) - 1
			}
			if random.Intn(30) == 0 {
				s.Units[n].Kind = random.Intn(6) - 1
			}
		}
		want := validBySearch(b, s)
		counts[want]++
		wantState(t, b, s, want)
	}
	if counts[true] < 1000 || counts[false] < 1000 {
		t.Errorf("valid and invalid states: %v", counts)
	}
}
