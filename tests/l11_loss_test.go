package tests

import (
	"slices"
	"testing"

	"loop.example/g00886/impl"
)

// wantCutOf requires the hexes that cut the way of a unit of side 0 in a hex, and
// that it is not in supply any more if a rock is in one of them.
func wantCutOf(t *testing.T, x depot, at int, want ...int) {
	t.Helper()
	x = x.having(unit(0, guard, at, 1))
	wantCuts(t, x, 0, want...)
	for i := range x.board.Map.Terrain {
		if i == at {
			continue
		}
		y := x
		y.board = copyBoard(x.board)
		y.board.Map.Terrain[i] = rock
		if is, ok := y.supplies(0); !ok || is == slices.Contains(want, i) {
			t.Errorf("InSupply with a rock in %d: %v, %v, but CutHexes in %v should be %v", i, is, ok, x, want)
		}
	}
}

// On a row, every hex between the unit and the nearest source cuts, but a source
// behind another one does not.
func TestCutHexesOfARow(t *testing.T) {
	wantCutOf(t, rearOf(6, 0), 0, 0)
	wantCutOf(t, rearOf(6, 0), 3, 0, 1, 2, 3)
	wantCutOf(t, rearOf(6, 5), 2, 2, 3, 4, 5)
	wantCutOf(t, rearOf(6, 0, 2), 4, 2, 3, 4)
	wantCutOf(t, rearOf(6, 1, 2, 3), 4, 3, 4)
	wantCutOf(t, rearOf(6, 1, 4), 3, 3)
	wantCutOf(t, rearOf(6, 0, 5), 2, 2)
	wantCutOf(t, rearOf(6, 2, 3), 2, 2)
	// The other source is too far away to help.
	wantCutOf(t, rearOf(6, 0, 5).within(2), 2, 0, 1, 2)
	wantCutOf(t, rearOf(6, 0, 5).within(3), 2, 2)
	wantCutOf(t, rearOf(6, 2, 3).within(0), 2, 2)
}

// One hex cuts, besides that of the unit and a source that is alone.
func TestOneHexCuts(t *testing.T) {
	b := frontBoard(3, plain, plain, rock, plain, plain, plain)
	x := depot{b, stateOf(), []int{0, 3}}
	wantCutOf(t, x, 5, 4, 5)
	wantCutOf(t, x.from(0), 5, 0, 4, 5)
	wantCutOf(t, x.from(3), 5, 3, 4, 5)
	wantCutOf(t, x.from(3), 1, 1, 3)
	wantCutOf(t, x.from(3).within(1), 1, 1, 3)
	// A narrow pass lies in the middle of a longer way. With more hexes, there is a
	// way around its last hex.
	pass := depot{frontBoard(5, 0, 0, rock, 0, 0, 0, 0, 0, 0, 0, 0, rock, rock, 0, 0), stateOf(), []int{0}}
	wantCutOf(t, pass.within(6), 14, 0, 6, 7, 8, 14)
	wantCutOf(t, pass.within(20), 14, 0, 6, 7, 14)
	wantCutOf(t, pass.within(5).from(0, 10), 14, 6, 7, 8, 10, 14)
	wantCutOf(t, pass.within(6).from(0, 10), 14, 6, 7, 14)
}

// Only the hex of the unit or the source cut where there are two separate ways.
func TestTwoSeparateWays(t *testing.T) {
	open := frontWith().within(20)
	wantCutOf(t, open.from(0), 8, 0, 8)
	wantCutOf(t, open.from(3), 5, 3, 5)
	wantCutOf(t, open.from(0, 6), 8, 8)
	wantCutOf(t, open.from(0, 1, 2, 3, 4, 5), 8, 8)
	around := depot{frontBoard(3, 0, 0, 0, 0, rock, 0, 0, 0, 0), stateOf(), []int{3}}
	wantCutOf(t, around, 5, 3, 5)
	wantCutOf(t, around.within(3), 5, 3, 5)
	wantCutOf(t, around.from(1), 7, 1, 7)
	// Neither way is the shortest one: they have as many hexes.
	wantCutOf(t, around.from(3, 8).within(3), 1, 1)
}

// The other way has one hex more than may be.
func TestTheOtherWayIsTooLong(t *testing.T) {
	x := frontWith().from(3)
	wantCutOf(t, x.within(2), 5, 3, 4, 5)
	wantCutOf(t, x.within(3), 5, 3, 5)
	// From 6 to 8, the way over 4 and 5 has one step more than the one over 7.
	wantCutOf(t, x.from(6).within(2), 8, 6, 7, 8)
	wantCutOf(t, x.from(6).within(3), 8, 6, 8)
	// From 3 to 8 there are two ways of three steps that have no hex in common,
	// and a third one that needs a fourth step.
	wantCutOf(t, x.within(3), 8, 3, 8)
	wantCutOf(t, x.within(3).from(0, 3), 8, 3, 8)
	wantCutOf(t, x.within(4).from(0, 3), 8, 8)
}

// Blocked hexes take away ways, and hexes that are blocked already do not cut.
func TestCutHexesBesideEnemies(t *testing.T) {
	x := frontWith(unit(0, guard, 5, 1), unit(1, scout, middle, 1)).from(3)
	wantCuts(t, x, 0, 3, 5)
	wantCuts(t, x.from(1, 3), 0, 5)
	wantUnsupplied(t, x.within(2), 0)
	x = frontWith(unit(0, guard, 5, 1), unit(1, scout, 1, 1)).from(3)
	wantCuts(t, x, 0, 3, 5)
	wantCuts(t, x.within(2), 0, 3, 4, 5)
	x = frontWith(unit(0, guard, 5, 1), unit(1, guard, 1, 1)).from(3, 6)
	wantCuts(t, x, 0, 5, 6, 7)
	x.state.Units = append(x.state.Units, unit(0, scout, 4, 1))
	wantCuts(t, x, 0, 5, 6)
	wantCuts(t, x, 2, 4, 6)
	wantCuts(t, x, 1, 1, 3)
}

// A side that is all in supply loses nothing.
func TestNoLosses(t *testing.T) {
	x := rearOf(7, 0, 6).having(unit(0, guard, 0, 2), unit(1, guard, 6, 1), unit(0, scout, 2, 1), unit(1, scout, -1, 0), unit(0, guard, -1, 1))
	wantLost(t, x, 0, x.state.Units...)
	wantLost(t, x, 1, x.state.Units...)
	x.state.Turn, x.state.Weather = 7, 2
	wantLost(t, x, 0, x.state.Units...)
	wantLost(t, x.within(2), 0, x.state.Units...)
	wantLost(t, x.within(2), 1, x.state.Units...)
}

// Each unit of the side alone loses one step, with its last one it is off the map,
// and units off the map lose none.
func TestLosses(t *testing.T) {
	b := rearOf(7).board
	b.Rules.Kinds[guard].Steps = 4
	x := depot{b, impl.State{Turn: 3, Weather: 1, Units: []impl.Unit{
		unit(0, guard, 2, 4), unit(1, guard, 6, 4), unit(0, scout, 3, 1), unit(0, guard, -1, 3), unit(0, guard, 0, 1), unit(1, scout, 5, 1),
		unit(1, guard, -1, 0), unit(0, guard, 2, 1),
	}}, []int{0}}
	wantLost(t, x.within(1), 0,
		unit(0, guard, 2, 3), unit(1, guard, 6, 4), unit(0, scout, -1, 0), unit(0, guard, -1, 3), unit(0, guard, 0, 1), unit(1, scout, 5, 1),
		unit(1, guard, -1, 0), unit(0, guard, -1, 0))
	wantLost(t, x.within(2), 0,
		unit(0, guard, 2, 4), unit(1, guard, 6, 4), unit(0, scout, -1, 0), unit(0, guard, -1, 3), unit(0, guard, 0, 1), unit(1, scout, 5, 1),
		unit(1, guard, -1, 0), unit(0, guard, 2, 1))
	wantLost(t, x, 1,
		unit(0, guard, 2, 4), unit(1, guard, 6, 3), unit(0, scout, 3, 1), unit(0, guard, -1, 3), unit(0, guard, 0, 1), unit(1, scout, -1, 0),
		unit(1, guard, -1, 0), unit(0, guard, 2, 1))
}

// The losses are those of LoseSteps, again and again until nobody is left.
func TestLossesByLoseSteps(t *testing.T) {
	for _, x := range depots()[:200] {
		for side := range 2 {
			y := x.from()
			for range 4 {
				want := copyState(y.state)
				for u, v := range y.state.Units {
					if v.Side == side && v.At != -1 {
						want, _ = impl.LoseSteps(y.board, want, u, 1)
					}
				}
				wantLost(t, y, side, want.Units...)
				y.state = want
			}
			wantUnits(t, y, side)
			if list, ok := impl.UnitsOf(y.board, y.state, side); !ok || len(list) > 0 {
				t.Errorf("units of side %d are left: %v, %v", side, list, ok)
			}
		}
	}
}

// passDepot returns a depot in which the scout in 2 is not in supply, since it
// cannot enter the ridge in 1, and alone keeps this hex open for the guard in 3:
// the zone of the enemy in 6 has the hex 2, but not 3 behind the river.
//
//	0 plain  1 ridge  2 plain  3 plain
//	4 rock   5 rock   6 plain  7 rock
func passDepot(scoutFirst bool) depot {
	b := frontBoard(4, plain, ridge, plain, plain, rock, rock, plain, rock)
	b.Map.Rivers = []int{19}
	units := []impl.Unit{unit(1, guard, 6, 1), unit(0, guard, 3, 1), unit(0, scout, 2, 1)}
	if scoutFirst {
		slices.Reverse(units)
	}
	return depot{b, stateOf(units...), []int{0}}
}

// All units are judged before any loses a step: the guard is in supply although
// the scout is lost that keeps its way open.
func TestLossesAreJudgedBefore(t *testing.T) {
	x := passDepot(false)
	wantZone(t, x.board, x.state, 1, 2)
	wantSupplied(t, x, 1, 0, 1, 2, 3)
	wantUnsupplied(t, x, 2)
	wantLost(t, x, 0, unit(1, guard, 6, 1), unit(0, guard, 3, 1), unit(0, scout, -1, 0))
	x = passDepot(true)
	wantUnsupplied(t, x, 0)
	wantSupplied(t, x, 1, 0, 1, 2, 3)
	wantLost(t, x, 0, unit(0, scout, -1, 0), unit(0, guard, 3, 1), unit(1, guard, 6, 1))
	// Afterwards, the way is closed and the guard is lost as well.
	x.state, _ = x.lose(0)
	wantUnsupplied(t, x, 1)
	wantLost(t, x, 0, unit(0, scout, -1, 0), unit(0, guard, -1, 0), unit(1, guard, 6, 1))
}

// A unit that is lost no longer is in the way of the other side, which is judged
// neither before nor after that.
func TestLossesOpenWaysOfTheOtherSide(t *testing.T) {
	x := rearOf(4, 0).having(unit(1, scout, 3, 1), unit(0, guard, 1, 1), unit(1, scout, 0, 1), unit(0, scout, 2, 1))
	wantUnsupplied(t, x, 0)
	wantUnsupplied(t, x, 1)
	wantLost(t, x, 0, unit(1, scout, 3, 1), unit(0, guard, -1, 0), unit(1, scout, 0, 1), unit(0, scout, -1, 0))
	wantLost(t, x, 1, unit(1, scout, -1, 0), unit(0, guard, 1, 1), unit(1, scout, 0, 1), unit(0, scout, 2, 1))
	x.state, _ = x.lose(0)
	wantSupplied(t, x, 0, 0, 1, 2, 3)
	wantLost(t, x, 1, unit(1, scout, 3, 1), unit(0, guard, -1, 0), unit(1, scout, 0, 1), unit(0, scout, -1, 0))
	// The zone of the guard beside the way closes it, until it is lost.
	zone := depot{frontBoard(3, plain, plain, plain, rock, plain, rock), stateOf(unit(0, guard, 4, 1), unit(1, scout, 2, 1)), []int{0}}
	wantUnsupplied(t, zone, 1)
	wantUnsupplied(t, zone.within(1), 0)
	wantLost(t, zone.within(1), 0, unit(0, guard, -1, 0), unit(1, scout, 2, 1))
	zone.state, _ = zone.within(1).lose(0)
	wantSupplied(t, zone, 1, 0, 1, 2)
}

// Whoever is not in supply loses a step, whoever is keeps all of them, and the
// states that result are valid.
func TestLossesOfUnitsThatAreNotSupplied(t *testing.T) {
	lost := 0
	for _, x := range depots() {
		for side := range 2 {
			after, ok := x.lose(side)
			if !ok {
				t.Fatalf("LoseUnsupplied of side %d in %v fails", side, x)
			}
			wantState(t, x.board, after, true)
			supplied, _ := x.units(side)
			for u, v := range x.state.Units {
				if v.Side == side && v.At != -1 && !slices.Contains(supplied, u) {
					lost++
					v.Steps--
					if v.Steps == 0 {
						v.At = -1
					}
				}
				if after.Units[u] != v {
					t.Errorf("unit %d after LoseUnsupplied of side %d in %v: %v, want %v", u, side, x, after.Units[u], v)
				}
			}
		}
	}
	if lost < 300 {
		t.Errorf("only %d steps are lost", lost)
	}
}
