package tests

import (
	"slices"
	"testing"

	"loop.example/g00886/impl"
)

// frontRow returns a row of hexes with the given terrains.
func frontRow(terrain ...int) impl.Board {
	return frontBoard(len(terrain), terrain...)
}

// In a row, direction 0 leads to the next hex and direction 3 to the one before.
const (
	onwards   = 0
	backwards = 3
)

// The unit 0 is off the map; its enemy exerts control from 0 and 4, its own side
// from 2.
func TestMustStop(t *testing.T) {
	b := frontRow(0, 0, 0, 0, 0, 0, 0)
	for side := range 2 {
		s := stateOf(unit(side, guard, -1, 2), unit(1-side, guard, 0, 1), unit(side, guard, 2, 1), unit(1-side, guard, 4, 1), unit(side, scout, 6, 1), unit(1-side, guard, -1, 0))
		for u := range s.Units {
			for i := range 7 {
				inOther, inOwn := i == 1 || i == 3 || i == 5, i == 1 || i == 3
				want := inOther
				if s.Units[u].Side != side {
					want = inOwn
				}
				wantStop(t, b, s, u, i, want)
			}
		}
	}
}

// The zone of the unit's own side alone stops nobody, nor does a hex with an
// enemy that is in no zone of the enemy.
func TestNoStop(t *testing.T) {
	b := plainFront()
	for side := range 2 {
		s := stateOf(unit(side, guard, middle, 2), unit(side, scout, -1, 1), unit(1-side, scout, 1, 1), unit(1-side, guard, -1, 2))
		for i := range 9 {
			wantStop(t, b, s, 0, i, false)
			wantStop(t, b, s, 1, i, false)
			wantStop(t, b, s, 2, i, slices.Contains(aroundMiddle, i))
			wantStop(t, b, s, 3, i, slices.Contains(aroundMiddle, i))
		}
	}
}

// The kind of the unit itself plays no part: it has to stop also where it could
// not be.
func TestStopOfAllKinds(t *testing.T) {
	b := frontRow(plain, plain, sea)
	s := stateOf(unit(0, guard, -1, 1), unit(0, scout, -1, 1), unit(0, boat, 2, 1), unit(1, guard, 0, 1))
	for u := range 3 {
		wantStop(t, b, s, u, 0, false)
		wantStop(t, b, s, u, 1, true)
		wantStop(t, b, s, u, 2, false)
	}
	wantStop(t, b, s, 3, 1, false)
}

// Without enemies, every step that stays on the map is allowed, wherever the
// unit is, and those that leave it are not.
func TestStepsOnAPlain(t *testing.T) {
	b := plainFront()
	for _, at := range []int{-1, 0, middle, 8} {
		for kind := range 2 {
			s := stateOf(unit(1, kind, at, 1))
			for i := range 9 {
				for d := range steps {
					wantStep(t, b, s, 0, i, d, nextBySearch(b, i, d) >= 0)
				}
			}
		}
	}
	single := frontRow(plain)
	for d := range steps {
		wantStep(t, single, stateOf(unit(0, guard, 0, 1)), 0, 0, d, false)
		wantStep(t, single, stateOf(unit(0, guard, -1, 1)), 0, 0, d, false)
	}
}

// What a kind cannot enter is closed for its steps, with a road too. Where a
// step begins does not have to be open, and a river stops no step.
func TestStepsOntoClosedHexes(t *testing.T) {
	opens := [][]bool{{true, true, false, false, false}, {true, false, true, false, false}, {false, false, false, true, false}}
	for kind, open := range opens {
		s := stateOf(unit(0, kind, -1, 1))
		for from := range open {
			for to, want := range open {
				b := frontRow(from, to)
				for _, edges := range [][]int{nil, {0}} {
					b.Map.Rivers = edges
					b.Map.Roads = nil
					wantStep(t, b, s, 0, 0, onwards, want)
					b.Map.Roads = []int{0}
					wantStep(t, b, s, 0, 0, onwards, want)
					wantStep(t, b, s, 0, 1, backwards, open[from])
				}
			}
		}
	}
}

// An enemy stops a step into its hex, with Zone or not; an own unit does not,
// also where the stack is full, and units off the map do not.
func TestStepsOntoUnits(t *testing.T) {
	for d, k := range aroundMiddle {
		for side := range 2 {
			for kind := range 2 {
				s := stateOf(unit(side, scout, middle, 1), unit(1-side, kind, k, 1), unit(side, guard, -1, 2))
				wantStep(t, plainFront(), s, 0, middle, d, false)
				wantStep(t, plainFront(), s, 2, middle, d, false)
				s.Units[1].At = -1
				wantStep(t, plainFront(), s, 0, middle, d, true)
				s.Units[1] = unit(side, kind, k, 1)
				wantStep(t, plainFront(), s, 0, middle, d, true)
				full := plainFront()
				full.Rules.Stack = 1
				wantStep(t, full, s, 0, middle, d, true)
				wantStep(t, full, s, 2, middle, d, true)
			}
		}
	}
}

// The enemy exerts control from 0 on 1 and from 3 on 2 and 4.
func TestStepsFromZoneToZone(t *testing.T) {
	b := frontRow(0, 0, 0, 0, 0, 0, 0)
	for side := range 2 {
		s := stateOf(unit(side, guard, -1, 2), unit(1-side, guard, 0, 1), unit(1-side, guard, 3, 1), unit(side, scout, 1, 1))
		for _, u := range []int{0, 3} {
			// Both hexes are in the zone.
			wantStep(t, b, s, u, 1, onwards, false)
			wantStep(t, b, s, u, 2, backwards, false)
			// Only the hex where the step begins is, or only where it ends.
			wantStep(t, b, s, u, 4, onwards, true)
			wantStep(t, b, s, u, 5, backwards, true)
			// Neither is.
			wantStep(t, b, s, u, 5, onwards, true)
			wantStep(t, b, s, u, 6, backwards, true)
			// The enemy is there.
			wantStep(t, b, s, u, 2, onwards, false)
			wantStep(t, b, s, u, 4, backwards, false)
			wantStep(t, b, s, u, 1, backwards, false)
			// From a hex with the enemy that is in no zone.
			wantStep(t, b, s, u, 3, onwards, true)
			wantStep(t, b, s, u, 3, backwards, true)
		}
		// One enemy at a time, and an enemy without Zone.
		s.Units[1].At = -1
		wantStep(t, b, s, 0, 1, onwards, true)
		wantStep(t, b, s, 0, 2, backwards, true)
		s.Units[1] = unit(1-side, scout, 0, 1)
		wantStep(t, b, s, 0, 1, onwards, true)
		wantStep(t, b, s, 0, 2, backwards, true)
		// The zone of the own side plays no part.
		own := stateOf(unit(side, guard, -1, 2), unit(side, guard, 0, 1), unit(side, guard, 3, 1))
		wantStep(t, b, own, 0, 1, onwards, true)
		wantStep(t, b, own, 0, 2, backwards, true)
		wantStep(t, b, own, 0, 2, onwards, true)
	}
}

// One enemy alone has both hexes in its zone; a river takes one of them away,
// and a road over it brings it back.
func TestStepsPastOneEnemy(t *testing.T) {
	b := plainFront()
	s := stateOf(unit(0, guard, 1, 1), unit(1, guard, middle, 1))
	wantStep(t, b, s, 0, 1, 5, false)
	wantStep(t, b, s, 0, 1, 0, false)
	wantStep(t, b, s, 0, 1, 4, false)
	wantStep(t, b, s, 0, 1, 3, true)
	for _, d := range []int{1, 2} {
		wantStep(t, riverBoard(d), s, 0, 1, 0, true)
		wantStep(t, bridgeBoard(d), s, 0, 1, 0, false)
		wantStep(t, roadBoard(d), s, 0, 1, 0, false)
	}
	wantStep(t, riverBoard(3), s, 0, 1, 0, false)
	wantStep(t, riverBoard(2), s, 0, 1, 5, false)
	// What the enemy cannot enter is not in its zone.
	b.Map.Terrain[2] = path
	s.Units[0].Kind = scout
	wantStep(t, b, s, 0, 1, 0, true)
	wantStep(t, b, s, 0, 1, 4, false)
}

// From a hex in which the unit is not, its own hex plays no part.
func TestStepsFromElsewhere(t *testing.T) {
	b := frontRow(0, 0, 0, 0, 0, 0, 0)
	s := stateOf(unit(0, guard, 1, 1), unit(1, guard, 0, 1), unit(1, guard, 6, 1))
	wantStep(t, b, s, 0, 1, onwards, true)
	wantStep(t, b, s, 0, 3, onwards, true)
	wantStep(t, b, s, 0, 4, onwards, true)
	wantStep(t, b, s, 0, 5, onwards, false)
	wantStep(t, b, s, 0, 2, backwards, true)
	// Past its own hex and into it.
	s.Units[1].At = 3
	wantStep(t, b, s, 0, 0, onwards, true)
	wantStep(t, b, s, 0, 2, backwards, true)
	wantStep(t, b, s, 0, 2, onwards, false)
}

func TestExitsOffTheMap(t *testing.T) {
	for _, b := range []impl.Board{plainFront(), frontRow(plain), frontRow(sea, sea)} {
		s := stateOf(unit(0, guard, -1, 2), unit(1, guard, -1, 0), unit(0, scout, -1, 1), unit(1, boat, -1, 0))
		for u := range s.Units {
			wantNoExits(t, b, s, u)
		}
	}
	s := stateOf(unit(0, guard, -1, 2), unit(0, guard, middle, 2), unit(1, guard, 0, 1))
	wantNoExits(t, plainFront(), s, 0)
	wantExits(t, plainFront(), s, 1, 0, 1, 2, 3, 4, 5)
}

// A unit with no neighbour that its kind can enter is surrounded, with and
// without enemies.
func TestNowhereToGo(t *testing.T) {
	alone := stateOf(unit(0, guard, 0, 2))
	wantSurrounded(t, frontRow(plain), alone, 0, true)
	wantExits(t, frontRow(plain), alone, 0)
	for _, closed := range []int{path, sea, rock} {
		b := frontBoard(3, slices.Repeat([]int{closed}, 9)...)
		b.Map.Terrain[middle] = plain
		s := stateOf(unit(0, guard, middle, 1), unit(1, guard, middle, 1))
		for _, s := range []impl.State{stateOf(s.Units[0]), stateOf(s.Units[1])} {
			wantSurrounded(t, b, s, 0, true)
			wantExits(t, b, s, 0)
		}
		// One way out, for a guard only.
		for d, k := range aroundMiddle {
			open := frontBoard(3, slices.Clone(b.Map.Terrain)...)
			open.Map.Terrain[k] = ridge
			s := stateOf(unit(0, guard, middle, 1))
			wantSurrounded(t, open, s, 0, false)
			wantExits(t, open, s, 0, d)
			s.Units[0].Kind = scout
			wantSurrounded(t, open, s, 0, closed != path)
		}
	}
}

// Enemies without Zone are on all neighbours, and on all but one.
func TestEnemiesAround(t *testing.T) {
	b := plainFront()
	for side := range 2 {
		s := stateOf(unit(side, guard, middle, 2))
		for _, k := range aroundMiddle {
			s.Units = append(s.Units, unit(1-side, scout, k, 1))
		}
		wantSurrounded(t, b, s, 0, true)
		wantExits(t, b, s, 0)
		for d := range aroundMiddle {
			gap := copyState(s)
			gap.Units[1+d].At = -1
			wantSurrounded(t, b, gap, 0, false)
			wantExits(t, b, gap, 0, d)
			// An own unit in the gap leaves it open; the other enemies are in
			// hexes that are not closed for the unit.
			gap.Units[1+d] = unit(side, scout, aroundMiddle[d], 1)
			wantSurrounded(t, b, gap, 0, false)
			wantExits(t, b, gap, 0, d)
			// A closed hex in the gap leaves no way out.
			closed := plainFront()
			closed.Map.Terrain[aroundMiddle[d]] = rock
			gap.Units[1+d].At = -1
			wantSurrounded(t, closed, gap, 0, true)
			wantExits(t, closed, gap, 0)
		}
	}
}

// Enemies on two opposite neighbours have the other four in their zones. A river
// between an enemy and one of these opens it.
func TestZonesAround(t *testing.T) {
	b := plainFront()
	s := stateOf(unit(0, guard, middle, 2), unit(1, guard, 1, 1), unit(1, guard, 7, 2))
	wantSurrounded(t, b, s, 0, true)
	wantExits(t, b, s, 0)
	for _, c := range []struct{ edge, d int }{{3, 1}, {10, 3}, {18, 4}, {22, 0}} {
		b.Map.Rivers, b.Map.Roads = []int{c.edge}, nil
		wantSurrounded(t, b, s, 0, false)
		wantExits(t, b, s, 0, c.d)
		b.Map.Roads = b.Map.Rivers
		wantSurrounded(t, b, s, 0, true)
		wantExits(t, b, s, 0)
	}
	// One enemy alone.
	b = plainFront()
	s.Units[2].At = -1
	wantSurrounded(t, b, s, 0, false)
	wantExits(t, b, s, 0, 0, 4, 5)
	// A river between the unit and the enemy: its own hex is in no zone, so that
	// it may enter those of its neighbours that are.
	wantExits(t, riverBoard(2), s, 0, 0, 1, 3, 4, 5)
	wantSurrounded(t, riverBoard(2), s, 0, false)
	// The enemies themselves are not surrounded, nor stopped by a scout.
	wantExits(t, b, s, 1, 3)
	s.Units[0] = unit(0, scout, middle, 1)
	wantExits(t, b, s, 1, 0, 3, 4)
	wantSurrounded(t, b, s, 1, false)
}

// Three enemies two hexes away have all six neighbours in their zones, but not
// the hex of the unit: it is surrounded, although each step is allowed. Without
// one of them, or with a river, it is not.
func TestSurroundedFromAfar(t *testing.T) {
	at := func(q, r int) int { return 5*r + q }
	b := frontBoard(5, make([]int, 25)...)
	s := stateOf(unit(0, scout, at(2, 2), 1), unit(1, guard, at(4, 1), 1), unit(1, guard, at(1, 4), 1), unit(1, guard, at(1, 1), 1))
	wantSurrounded(t, b, s, 0, true)
	wantExits(t, b, s, 0, 0, 1, 2, 3, 4, 5)
	wantStop(t, b, s, 0, at(2, 2), false)
	for u := 1; u <= 3; u++ {
		less := copyState(s)
		less.Units[u].At = -1
		wantSurrounded(t, b, less, 0, false)
		less.Units[u] = unit(1, scout, s.Units[u].At, 1)
		wantSurrounded(t, b, less, 0, false)
		less.Units[u] = unit(0, guard, s.Units[u].At, 1)
		wantSurrounded(t, b, less, 0, false)
	}
	for d := range steps {
		// The neighbour in direction d is cut off from the one enemy beside it.
		next := nextBySearch(b, at(2, 2), d)
		river := frontBoard(5, make([]int, 25)...)
		for k := range steps {
			if slices.ContainsFunc(s.Units[1:], func(u impl.Unit) bool { return u.At == nextBySearch(b, next, k) }) {
				e, _ := impl.EdgeOf(b.Map, next, k)
				river.Map.Rivers = append(river.Map.Rivers, e)
			}
		}
		if len(river.Map.Rivers) != 1 {
			t.Fatalf("the neighbour %d has the enemies beside %v", next, river.Map.Rivers)
		}
		wantSurrounded(t, river, s, 0, false)
	}
}

// FreeExits are the directions that StepAllowed has, and a unit that is not
// surrounded has one of them.
func TestExitsAreAllowedSteps(t *testing.T) {
	counts := map[string]int{}
	for _, p := range fronts() {
		for u, v := range p.state.Units {
			if v.At == -1 {
				wantNoExits(t, p.board, p.state, u)
				continue
			}
			exits, ok := impl.FreeExits(p.board, p.state, u)
			surrounded, ok2 := impl.IsSurrounded(p.board, p.state, u)
			wantIncreasing(t, "FreeExits", exits)
			if !ok || !ok2 || !surrounded && len(exits) == 0 {
				t.Fatalf("unit %d of %v has the exits %v: %v, %v, %v", u, p, exits, surrounded, ok, ok2)
			}
			for d := range steps {
				wantStep(t, p.board, p.state, u, v.At, d, slices.Contains(exits, d))
			}
			switch {
			case surrounded && len(exits) == 0:
				counts["surrounded"]++
			case surrounded:
				counts["surrounded with exits"]++
			default:
				counts["not surrounded"]++
			}
		}
	}
	if len(counts) != 3 {
		t.Errorf("units are %v", counts)
	}
}
