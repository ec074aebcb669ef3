package tests

import (
	"fmt"
	"slices"
	"testing"

	"loop.example/g00886/impl"
)

// The results for each hex of campBoard with campState.
var campHexes = []struct {
	units    []int
	owner    int
	room     [2]int
	strength [2]int
}{
	{[]int{0, 2}, 0, [2]int{0, 0}, [2]int{21, 0}},
	{nil, -1, [2]int{2, 2}, [2]int{0, 0}},
	{[]int{1}, 1, [2]int{0, 1}, [2]int{0, 3}},
	{[]int{4}, 1, [2]int{0, 1}, [2]int{0, 10}},
	{[]int{6}, 0, [2]int{1, 0}, [2]int{3, 0}},
	{nil, -1, [2]int{2, 2}, [2]int{0, 0}},
	{[]int{8}, 0, [2]int{1, 0}, [2]int{5, 0}},
	{nil, -1, [2]int{2, 2}, [2]int{0, 0}},
}

func TestHexesOfCamp(t *testing.T) {
	b, s := campBoard(), campState()
	for i, want := range campHexes {
		units, ok := impl.UnitsAt(b, s, i)
		wantList(t, fmt.Sprint("UnitsAt ", i), units, ok, want.units)
		owner, ok := impl.OwnerOf(b, s, i)
		wantNumber(t, fmt.Sprint("OwnerOf ", i), owner, ok, want.owner)
		for side := range 2 {
			room, ok := impl.StackRoom(b, s, side, i)
			wantNumber(t, fmt.Sprint("StackRoom ", side, i), room, ok, want.room[side])
			strength, ok := impl.StrengthAt(b, s, side, i)
			wantNumber(t, fmt.Sprint("StrengthAt ", side, i), strength, ok, want.strength[side])
		}
	}
	first, ok := impl.UnitsOf(b, s, 0)
	wantList(t, "UnitsOf 0", first, ok, []int{0, 2, 6, 8})
	second, ok := impl.UnitsOf(b, s, 1)
	wantList(t, "UnitsOf 1", second, ok, []int{1, 4})
	m, n, ok := impl.CountSteps(b, s)
	wantNumber(t, "CountSteps of side 0", m, ok, 9)
	wantNumber(t, "CountSteps of side 1", n, ok, 3)
}

// wantNoUnits requires the results for a state without units on the map.
func wantNoUnits(t *testing.T, b impl.Board, s impl.State) {
	t.Helper()
	what := fmt.Sprint(" of ", s)
	for side := range 2 {
		list, ok := impl.UnitsOf(b, s, side)
		wantList(t, fmt.Sprint("UnitsOf ", side, what), list, ok, nil)
	}
	for i := range b.Map.Terrain {
		list, ok := impl.UnitsAt(b, s, i)
		wantList(t, fmt.Sprint("UnitsAt ", i, what), list, ok, nil)
		owner, ok := impl.OwnerOf(b, s, i)
		wantNumber(t, fmt.Sprint("OwnerOf ", i, what), owner, ok, -1)
		for side := range 2 {
			room, ok := impl.StackRoom(b, s, side, i)
			wantNumber(t, fmt.Sprint("StackRoom ", side, i, what), room, ok, b.Rules.Stack)
			strength, ok := impl.StrengthAt(b, s, side, i)
			wantNumber(t, fmt.Sprint("StrengthAt ", side, i, what), strength, ok, 0)
		}
	}
	m, n, ok := impl.CountSteps(b, s)
	wantNumber(t, "CountSteps"+what, m, ok, 0)
	wantNumber(t, "CountSteps"+what, n, ok, 0)
}

func TestNoUnitsOnTheMap(t *testing.T) {
	off := []impl.Unit{unit(0, 0, -1, 4), unit(1, 1, -1, 2), unit(1, 2, -1, 0), unit(0, 0, -1, 0)}
	for _, b := range []impl.Board{campBoard(), {Rules: fullRules(), Map: variedMap(3, 3)}} {
		for n := range len(off) + 1 {
			wantNoUnits(t, b, stateOf(off[:n]...))
		}
	}
	for stack := 1; stack <= 4; stack++ {
		wantNoUnits(t, stackBoard(stack), stateOf())
	}
}

func wantHex(t *testing.T, p position, i int) {
	t.Helper()
	b, s := p.board, p.state
	what := fmt.Sprint(" ", i, " of ", s)
	units, ok := impl.UnitsAt(b, s, i)
	wantList(t, "UnitsAt"+what, units, ok, unitsBySearch(s, func(u impl.Unit) bool { return u.At == i }))
	wantOwner := -1
	var room, strength [2]int
	for side := range 2 {
		here := unitsBySearch(s, func(u impl.Unit) bool { return u.At == i && u.Side == side })
		room[side] = b.Rules.Stack - len(here)
		if len(here) > 0 {
			wantOwner = side
		}
		for _, n := range here {
			strength[side] += b.Rules.Kinds[s.Units[n].Kind].Strength * s.Units[n].Steps
		}
	}
	if wantOwner >= 0 {
		room[1-wantOwner] = 0
	}
	owner, ok := impl.OwnerOf(b, s, i)
	wantNumber(t, "OwnerOf"+what, owner, ok, wantOwner)
	for side := range 2 {
		n, ok := impl.StackRoom(b, s, side, i)
		wantNumber(t, fmt.Sprint("StackRoom ", side, what), n, ok, room[side])
		n, ok = impl.StrengthAt(b, s, side, i)
		wantNumber(t, fmt.Sprint("StrengthAt ", side, what), n, ok, strength[side])
	}
}

func TestEveryHex(t *testing.T) {
	for _, p := range positions() {
		for i := range p.board.Map.Terrain {
			wantHex(t, p, i)
		}
	}
}

func TestUnitsOfSides(t *testing.T) {
	for _, p := range positions() {
		var counts [2]int
		for side := range 2 {
			want := unitsBySearch(p.state, func(u impl.Unit) bool { return u.At >= 0 && u.Side == side })
			list, ok := impl.UnitsOf(p.board, p.state, side)
			wantList(t, fmt.Sprint("UnitsOf ", side, " of ", p.state), list, ok, want)
			for _, n := range want {
				counts[side] += p.state.Units[n].Steps
			}
		}
		m, n, ok := impl.CountSteps(p.board, p.state)
		wantNumber(t, fmt.Sprint("CountSteps of ", p.state), m, ok, counts[0])
		wantNumber(t, fmt.Sprint("CountSteps of ", p.state), n, ok, counts[1])
	}
}

// Each unit that is on the map is in the list of one hex, its own, and of one
// side; the owners of hexes are the sides of their units.
func TestUnitsAreInTheHexesThatHaveThem(t *testing.T) {
	for _, p := range positions() {
		var all, bySide []int
		for i := range p.board.Map.Terrain {
			list, _ := impl.UnitsAt(p.board, p.state, i)
			owner, _ := impl.OwnerOf(p.board, p.state, i)
			for _, n := range list {
				if u := p.state.Units[n]; u.At != i || u.Side != owner {
					t.Errorf("unit %d of %v is in hex %d of side %d", n, p.state, i, owner)
				}
			}
			all = append(all, list...)
		}
		for side := range 2 {
			list, _ := impl.UnitsOf(p.board, p.state, side)
			if !slices.IsSorted(list) {
				t.Errorf("UnitsOf %d of %v: %v", side, p.state, list)
			}
			bySide = append(bySide, list...)
		}
		slices.Sort(all)
		slices.Sort(bySide)
		want := unitsBySearch(p.state, func(u impl.Unit) bool { return u.At != -1 })
		if !slices.Equal(all, want) || !slices.Equal(bySide, want) {
			t.Errorf("units of %v are %v in hexes and %v of sides, want %v", p.state, all, bySide, want)
		}
	}
}

// StackRoom is the number of units of a kind for which the terrain is open that
// can be placed one after the other.
func TestStackRoomIsFilled(t *testing.T) {
	for stack := 1; stack <= 4; stack++ {
		for before := range stack + 1 {
			for side := range 2 {
				b := stackBoard(stack)
				s := stateOf(slices.Repeat([]impl.Unit{unit(side, 0, -1, 1)}, 6)...)
				for n := range before {
					s.Units[n].At = 0
				}
				room, ok := impl.StackRoom(b, s, side, 0)
				wantNumber(t, fmt.Sprint("StackRoom with ", before, " of ", stack), room, ok, stack-before)
				for n := before; n < 6; n++ {
					next, ok := impl.PlaceUnit(b, s, n, 0)
					if ok != (n < stack) {
						t.Errorf("unit %d is placed in a hex for %d: %v", n, stack, ok)
					}
					if ok {
						s = next
					}
				}
			}
		}
	}
}

// Strengths add up over several units of different kinds.
func TestStrengthOfSeveralUnits(t *testing.T) {
	r := fullRules()
	r.Stack = 4
	b := impl.Board{Rules: r, Map: plainMap(2, 1)}
	s := stateOf(unit(1, 0, 1, 3), unit(0, 0, 0, 4), unit(1, 1, 1, 2), unit(1, 0, -1, 4), unit(1, 1, 1, 1), unit(1, 0, 1, 3))
	for side, want := range [][]int{{8, 0}, {0, 2*3 + 5*2 + 5*1 + 2*3}} {
		for i := range 2 {
			n, ok := impl.StrengthAt(b, s, side, i)
			wantNumber(t, fmt.Sprint("StrengthAt ", side, i), n, ok, want[i])
		}
	}
	strong := stackBoard(4)
	strong.Rules.Kinds[0].Strength, strong.Rules.Kinds[0].Steps = 9, 4
	n, ok := impl.StrengthAt(strong, stateOf(slices.Repeat([]impl.Unit{unit(0, 0, 0, 4)}, 4)...), 0, 0)
	wantNumber(t, "the greatest strength", n, ok, 144)
}
