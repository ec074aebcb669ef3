package tests

import (
	"slices"
	"testing"

	"loop.example/g00886/impl"
)

// Four different counts, in the order of CountControlled.
func TestControlOfARow(t *testing.T) {
	b := frontRow(make([]int, 10)...)
	s := stateOf(unit(0, guard, 1, 2), unit(1, guard, 3, 2), unit(1, scout, 6, 1), unit(1, scout, 9, 1), unit(0, guard, -1, 2), unit(1, guard, -1, 0))
	wantControl(t, b, s, 0, 0, 2, 1, 1, -1, 1, -1, -1, 1)
	list, ok := impl.CountControlled(b, s)
	wantList(t, "CountControlled of a row", list, ok, []int{2, 4, 1, 3})
	swapped, _ := impl.SwapSides(b, s)
	wantControl(t, b, swapped, 1, 1, 2, 0, 0, -1, 0, -1, -1, 0)
	list, ok = impl.CountControlled(b, swapped)
	wantList(t, "CountControlled with swapped sides", list, ok, []int{4, 2, 1, 3})
}

func TestControlOfNobody(t *testing.T) {
	for _, s := range []impl.State{{}, stateOf(unit(0, guard, -1, 2)), stateOf(unit(1, guard, -1, 0), unit(0, boat, -1, 1))} {
		wantControl(t, plainFront(), s, -1, -1, -1, -1, -1, -1, -1, -1, -1)
		wantControl(t, frontRow(rock), s, -1)
	}
	wantControl(t, frontRow(plain), stateOf(unit(0, guard, 0, 1)), 0)
	wantControl(t, frontRow(plain), stateOf(unit(1, scout, 0, 1)), 1)
}

// A hex with units is controlled by them, whatever zones it is in.
func TestControlOfUnitsInZones(t *testing.T) {
	b := frontRow(0, 0, 0, 0)
	// Units beside each other, each in the zone of the other one.
	wantControl(t, b, stateOf(unit(0, guard, 1, 1), unit(1, guard, 2, 1)), 0, 0, 1, 1)
	wantControl(t, b, stateOf(unit(1, guard, 1, 1), unit(0, guard, 2, 1)), 1, 1, 0, 0)
	// Units without Zone in a zone of the other side alone, and in both zones.
	wantControl(t, b, stateOf(unit(0, guard, 1, 1), unit(1, scout, 2, 1)), 0, 0, 1, -1)
	wantControl(t, b, stateOf(unit(1, guard, 1, 1), unit(0, scout, 2, 1)), 1, 1, 0, -1)
	wantControl(t, b, stateOf(unit(0, guard, 1, 1), unit(1, guard, 3, 1), unit(1, scout, 2, 1)), 0, 0, 1, 1)
	wantControl(t, b, stateOf(unit(0, guard, 1, 1), unit(1, guard, 3, 1), unit(0, scout, 2, 1)), 0, 0, 0, 1)
	wantControl(t, b, stateOf(unit(0, guard, 1, 1), unit(1, guard, 3, 1)), 0, 0, 2, 1)
	// Stacks count once.
	s := stateOf(unit(0, scout, 1, 1), unit(0, guard, 1, 1), unit(1, guard, 3, 1), unit(0, guard, 1, 2), unit(1, guard, 3, 1))
	wantControl(t, b, s, 0, 0, 2, 1)
	list, ok := impl.CountControlled(b, s)
	wantList(t, "CountControlled with stacks", list, ok, []int{2, 1, 1, 0})
}

// Rivers, roads and closed hexes count for control as they do for zones.
func TestControlOfRiversAndClosedHexes(t *testing.T) {
	for d, k := range aroundMiddle {
		s := stateOf(unit(1, guard, middle, 1))
		want := []int{-1, 1, 1, 1, 1, 1, 1, 1, -1}
		wantControl(t, bridgeBoard(d), s, want...)
		wantControl(t, roadBoard(d), s, want...)
		closed := plainFront()
		closed.Map.Terrain[k] = rock
		want[k] = -1
		wantControl(t, riverBoard(d), s, want...)
		wantControl(t, closed, s, want...)
	}
}

// Each hex is counted once.
func TestControlIsCountedOnce(t *testing.T) {
	for _, p := range fronts() {
		list, ok := impl.CountControlled(p.board, p.state)
		if !ok || len(list) != 4 || list[0]+list[1]+list[2]+list[3] != len(p.board.Map.Terrain) || slices.Min(list) < 0 {
			t.Fatalf("CountControlled of %v: %v, %v", p, list, ok)
		}
		for i := range p.board.Map.Terrain {
			owner, _ := impl.OwnerOf(p.board, p.state, i)
			control, _ := impl.ControlMap(p.board, p.state)
			if owner >= 0 && control[i] != owner {
				t.Fatalf("hex %d of %v has units of side %d: %v", i, p, owner, control)
			}
		}
	}
}

// With swapped sides, each side has the zone of the other one.
func TestZonesOfSwappedSides(t *testing.T) {
	for _, p := range fronts() {
		swapped, _ := impl.SwapSides(p.board, p.state)
		for side := range 2 {
			list, _ := impl.ZoneHexes(p.board, p.state, side)
			wantZone(t, p.board, swapped, 1-side, list...)
		}
		control, _ := impl.ControlMap(p.board, p.state)
		for i, n := range control {
			if n == impl.CtFirst || n == impl.CtOther {
				control[i] = 1 - n
			}
		}
		wantControl(t, p.board, swapped, control...)
	}
}

func TestSurveyOfAllFronts(t *testing.T) {
	for _, p := range fronts() {
		wantSurvey(t, p)
	}
}

// On a plain, each hex has nobody or a unit of one of the sides, with Zone or
// without.
func TestSurveyOfAllPlaces(t *testing.T) {
	sizes := []struct{ width, hexes, kinds int }{{2, 4, 2}, {4, 4, 2}, {3, 6, 1}, {2, 6, 1}}
	for _, x := range sizes {
		for _, places := range patterns(x.hexes, 1+2*x.kinds) {
			s := stateOf()
			for i, n := range places {
				if n > 0 {
					s.Units = append(s.Units, unit((n-1)%2, (n-1)/2, i, 1))
				}
			}
			wantSurvey(t, position{frontBoard(x.width, make([]int, x.hexes)...), s})
		}
	}
}

// Each of the five edges of a square has nothing, a river, a road or both.
func TestSurveyOfAllEdges(t *testing.T) {
	numbers := edgeNumbers(2, 2)
	for _, list := range patterns(len(numbers), 4) {
		b := frontBoard(2, 0, 0, 0, 0)
		for n, what := range list {
			if what%2 == 1 {
				b.Map.Rivers = append(b.Map.Rivers, numbers[n])
			}
			if what/2 == 1 {
				b.Map.Roads = append(b.Map.Roads, numbers[n])
			}
		}
		wantSurvey(t, position{b, stateOf(unit(0, guard, 1, 1), unit(1, guard, 2, 1), unit(0, scout, 3, 1))})
		wantSurvey(t, position{b, stateOf(unit(1, guard, 0, 1), unit(0, guard, 3, 1), unit(1, guard, -1, 1))})
	}
}

// Each hex of a square has any terrain; units of all kinds are where they can be.
func TestSurveyOfAllTerrains(t *testing.T) {
	for _, terrain := range patterns(4, 5) {
		b := frontBoard(2, terrain...)
		for _, kinds := range [][]int{{guard, scout, boat, guard}, {boat, guard, guard, scout}, {guard, boat, guard, boat}} {
			s := stateOf()
			for i, kind := range kinds {
				at := i
				if costAt(b, kind, i) == 0 {
					at = -1
				}
				s.Units = append(s.Units, unit(i/2, kind, at, 1))
			}
			wantSurvey(t, position{b, s})
		}
	}
}
