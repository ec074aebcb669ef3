package tests

import (
	"fmt"
	"slices"
	"testing"

	"loop.example/g00886/impl"
)

// withAt returns a state in which a unit is somewhere else.
func withAt(s impl.State, u, at int) impl.State {
	s = copyState(s)
	s.Units[u].At = at
	return s
}

func TestPlaceUnitOfCamp(t *testing.T) {
	b, s := campBoard(), campState()
	cases := []struct {
		what  string
		u, at int
		want  bool
	}{
		{"on an open hex", 3, 1, true}, {"on another open hex", 3, 7, true}, {"from hex to hex", 0, 1, true},
		{"where a unit of its side has room", 3, 4, true}, {"from hex to hex where a unit of its side has room", 0, 4, true},
		{"where it stands alone", 1, 2, true}, {"where it stands in a full hex", 0, 0, true}, {"off the map", 0, -1, true},
		{"where it was not on the map", 3, -1, true}, {"without steps off the map", 7, -1, true}, {"that enters nothing off the map", 5, -1, true},
		{"where its kind cannot go", 3, 3, false}, {"on a rock", 3, 5, false}, {"at sea to the land", 4, 7, false},
		{"that enters nothing", 5, 1, false}, {"on a hex of the other side", 3, 2, false}, {"of side 1 on a hex of side 0", 1, 4, false},
		{"at sea on a hex of the other side", 4, 6, false}, {"of side 0 at sea on a hex of the other side", 8, 3, false},
		{"on a full hex", 3, 0, false}, {"from hex to a full hex", 6, 0, false}, {"without steps", 7, 1, false}, {"without steps where its side is", 7, 2, false},
	}
	for _, c := range cases {
		placed, ok := impl.PlaceUnit(b, s, c.u, c.at)
		if c.want {
			wantChanged(t, "PlaceUnit "+c.what, b, placed, ok, withAt(s, c.u, c.at))
		} else {
			wantZero(t, "PlaceUnit "+c.what, ok, placed)
		}
	}
}

// Every unit is placed on every hex, and beside the map: the result is valid or
// there is none.
func TestPlaceUnitEverywhere(t *testing.T) {
	placed := 0
	for _, p := range positions() {
		for u := range p.state.Units {
			for at := -3; at <= len(p.board.Map.Terrain)+2; at++ {
				want := withAt(p.state, u, at)
				call := fmt.Sprint("PlaceUnit ", u, " on ", at, " of ", p.state)
				got, ok := impl.PlaceUnit(p.board, p.state, u, at)
				if validBySearch(p.board, want) {
					wantChanged(t, call, p.board, got, ok, want)
					placed++
				} else {
					wantZero(t, call, ok, got)
				}
			}
		}
	}
	if placed < 1000 {
		t.Errorf("only %d units are placed", placed)
	}
}

// A unit goes off the map and back to where it was.
func TestPlaceUnitThereAndBack(t *testing.T) {
	for _, p := range positions() {
		for n, u := range p.state.Units {
			off, ok := impl.PlaceUnit(p.board, p.state, n, -1)
			wantChanged(t, fmt.Sprint("PlaceUnit ", n, " off the map of ", p.state), p.board, off, ok, withAt(p.state, n, -1))
			back, ok := impl.PlaceUnit(p.board, off, n, u.At)
			wantChanged(t, fmt.Sprint("PlaceUnit ", n, " back on ", p.state), p.board, back, ok, p.state)
			same, ok := impl.PlaceUnit(p.board, p.state, n, u.At)
			wantChanged(t, fmt.Sprint("PlaceUnit ", n, " where it is in ", p.state), p.board, same, ok, p.state)
		}
	}
}

// A placed unit is in the hex, and in no other one.
func TestPlacedUnitsAreFound(t *testing.T) {
	b, s := campBoard(), campState()
	placed, ok := impl.PlaceUnit(b, s, 0, 1)
	if !ok {
		t.Fatal("unit 0 is not placed")
	}
	for i, want := range [][]int{{2}, {0}, {1}, {4}, {6}, nil, {8}, nil} {
		list, ok := impl.UnitsAt(b, placed, i)
		wantList(t, fmt.Sprint("UnitsAt ", i), list, ok, want)
	}
}

func TestLoseStepsOfCamp(t *testing.T) {
	b, s := campBoard(), campState()
	// The steps and the hex of a unit after a loss of 0 to 4 steps.
	for u, want := range map[int][5][2]int{
		0: {{4, 0}, {3, 0}, {2, 0}, {1, 0}, {0, -1}},
		1: {{1, 2}, {0, -1}, {0, -1}, {0, -1}, {0, -1}},
		3: {{2, -1}, {1, -1}, {0, -1}, {0, -1}, {0, -1}},
		4: {{2, 3}, {1, 3}, {0, -1}, {0, -1}, {0, -1}},
		7: {{0, -1}, {0, -1}, {0, -1}, {0, -1}, {0, -1}},
	} {
		for n, x := range want {
			wanted := copyState(s)
			wanted.Units[u].Steps, wanted.Units[u].At = x[0], x[1]
			less, ok := impl.LoseSteps(b, s, u, n)
			wantChanged(t, fmt.Sprint("LoseSteps ", u, n), b, less, ok, wanted)
		}
	}
}

// stepsOf returns CountSteps of both sides.
func stepsOf(t *testing.T, b impl.Board, s impl.State) [2]int {
	t.Helper()
	m, n, ok := impl.CountSteps(b, s)
	if !ok {
		t.Fatalf("CountSteps of %v fails", s)
	}
	return [2]int{m, n}
}

// Lost steps are counted: of the side of the unit, if it is on the map.
func TestLostStepsAreCounted(t *testing.T) {
	for _, p := range positions() {
		for u, x := range p.state.Units {
			for n := range 5 {
				want := copyState(p.state)
				want.Units[u].Steps = max(x.Steps-n, 0)
				if want.Units[u].Steps == 0 {
					want.Units[u].At = -1
				}
				call := fmt.Sprint("LoseSteps ", u, n, " of ", p.state)
				less, ok := impl.LoseSteps(p.board, p.state, u, n)
				wantChanged(t, call, p.board, less, ok, want)
				counts := stepsOf(t, p.board, p.state)
				if x.At != -1 {
					counts[x.Side] -= min(n, x.Steps)
				}
				if now := stepsOf(t, p.board, less); now != counts {
					t.Errorf("CountSteps after %s: %v, want %v", call, now, counts)
				}
			}
		}
	}
}

// Losses one by one are the same as losses together.
func TestLossesAddUp(t *testing.T) {
	for _, p := range positions() {
		for u := range p.state.Units {
			oneByOne := p.state
			for n := 1; n <= 4; n++ {
				oneByOne, _ = impl.LoseSteps(p.board, oneByOne, u, 1)
				together, ok := impl.LoseSteps(p.board, p.state, u, n)
				wantChanged(t, fmt.Sprint("LoseSteps ", u, n, " of ", p.state), p.board, together, ok, oneByOne)
			}
			if oneByOne.Units[u].Steps != 0 || oneByOne.Units[u].At != -1 {
				t.Errorf("unit %d of %v after four losses: %v", u, p.state, oneByOne.Units[u])
			}
		}
	}
}

// Units that are not on the map keep their steps, which do not count.
func TestCountStepsOffTheMap(t *testing.T) {
	b := campBoard()
	for _, c := range []struct {
		units []impl.Unit
		want  [2]int
	}{
		{nil, [2]int{0, 0}}, {[]impl.Unit{unit(0, 0, -1, 4)}, [2]int{0, 0}}, {[]impl.Unit{unit(0, 0, 7, 4)}, [2]int{4, 0}},
		{[]impl.Unit{unit(1, 0, 7, 4)}, [2]int{0, 4}}, {[]impl.Unit{unit(1, 0, -1, 3), unit(0, 1, 3, 2), unit(0, 0, -1, 1)}, [2]int{2, 0}},
		{[]impl.Unit{unit(1, 0, 7, 3), unit(1, 0, 7, 2), unit(0, 1, 3, 1), unit(1, 2, -1, 1), unit(0, 0, 0, 4)}, [2]int{5, 5}},
	} {
		if got := stepsOf(t, b, stateOf(c.units...)); got != c.want {
			t.Errorf("CountSteps of %v: %v, want %v", c.units, got, c.want)
		}
	}
	r := fullRules()
	r.Stack = 4
	most := stateOf(slices.Concat(slices.Repeat([]impl.Unit{unit(1, 0, 0, 4)}, 4), slices.Repeat([]impl.Unit{unit(1, 0, 1, 4)}, 4),
		slices.Repeat([]impl.Unit{unit(1, 0, 2, 4)}, 4))...)
	if got := stepsOf(t, impl.Board{Rules: r, Map: plainMap(3, 1)}, most); got != [2]int{0, 48} {
		t.Errorf("CountSteps of as many units as there may be: %v", got)
	}
}

func TestSwapSides(t *testing.T) {
	b, s := campBoard(), campState()
	want := copyState(s)
	for n, side := range []int{1, 0, 1, 1, 0, 0, 1, 0, 1} {
		want.Units[n].Side = side
	}
	swapped, ok := impl.SwapSides(b, s)
	wantChanged(t, "SwapSides", b, swapped, ok, want)
}

// Sides are swapped back, and whatever is counted by sides is swapped.
func TestSwapSidesTwice(t *testing.T) {
	for _, p := range positions() {
		want := copyState(p.state)
		for n := range want.Units {
			want.Units[n].Side ^= 1
		}
		swapped, ok := impl.SwapSides(p.board, p.state)
		wantChanged(t, fmt.Sprint("SwapSides of ", p.state), p.board, swapped, ok, want)
		back, ok := impl.SwapSides(p.board, swapped)
		wantChanged(t, fmt.Sprint("SwapSides twice of ", p.state), p.board, back, ok, p.state)
		before, after := stepsOf(t, p.board, p.state), stepsOf(t, p.board, swapped)
		if before[0] != after[1] || before[1] != after[0] {
			t.Errorf("CountSteps of %v: %v, and %v with the sides swapped", p.state, before, after)
		}
		for side := range 2 {
			own, _ := impl.UnitsOf(p.board, p.state, side)
			other, ok := impl.UnitsOf(p.board, swapped, 1-side)
			wantList(t, fmt.Sprint("UnitsOf ", 1-side, " of ", swapped), other, ok, own)
		}
	}
}
