package tests

import (
	"slices"
	"testing"

	"loop.example/g00886/impl"
)

func TestMaxSources(t *testing.T) {
	if impl.MaxSources != 6 {
		t.Error(impl.MaxSources)
	}
}

// frontWith returns a depot on plainFront with units.
func frontWith(units ...impl.Unit) depot {
	return depot{board: plainFront(), state: stateOf(units...)}
}

// An enemy blocks its hex, and the others in its zone if it has one. The zone of
// its own side blocks nothing.
func TestHexesBlockedByEnemies(t *testing.T) {
	for side := range 2 {
		x := frontWith(unit(1-side, guard, middle, 1))
		wantBlocked(t, x, side, 1, 2, 3, 4, 5, 6, 7)
		wantBlocked(t, x, 1-side)
		x = frontWith(unit(1-side, scout, middle, 1))
		wantBlocked(t, x, side, middle)
		wantBlocked(t, x, 1-side)
		x = frontWith(unit(1-side, scout, 0, 1), unit(1-side, scout, 8, 1), unit(1-side, scout, 8, 1))
		wantBlocked(t, x, side, 0, 8)
		wantBlocked(t, x, 1-side)
	}
}

func TestNothingIsBlocked(t *testing.T) {
	off := []impl.Unit{unit(0, guard, -1, 2), unit(1, guard, -1, 1), unit(1, scout, -1, 0)}
	for side := range 2 {
		for n := range len(off) + 1 {
			wantBlocked(t, frontWith(off[:n]...), side)
		}
	}
}

// A unit of the side opens its hex in the zone of the other side, with Zone or
// not, and no other hex.
func TestHexesOfUnitsInTheZoneOfTheOtherSide(t *testing.T) {
	for side := range 2 {
		for kind := range 2 {
			for _, k := range aroundMiddle {
				x := frontWith(unit(1-side, guard, middle, 1), unit(side, kind, k, 1))
				wantBlocked(t, x, side, append(without(aroundMiddle, k), middle)...)
			}
		}
		x := frontWith(unit(1-side, guard, middle, 1), unit(side, scout, 1, 1), unit(side, scout, 7, 1), unit(side, scout, 1, 1))
		wantBlocked(t, x, side, 2, 3, 4, 5, 6)
		wantBlocked(t, x, 1-side, 1, 7)
		// A unit that is off the map opens nothing.
		x.state.Units[2].At = -1
		wantBlocked(t, x, side, 2, 3, 4, 5, 6, 7)
		wantBlocked(t, x, 1-side, 1)
	}
}

// The hexes 2 and 7 are in the zones of both sides. There, a unit opens the hex
// for its own side alone.
func TestHexesInBothZones(t *testing.T) {
	x := frontWith(unit(0, guard, middle, 2), unit(1, guard, 5, 2))
	wantContested(t, x.board, x.state, 2, 7)
	wantBlocked(t, x, 0, 2, 5, 7, 8)
	wantBlocked(t, x, 1, 1, 2, 3, 4, 6, 7)
	first := frontWith(unit(0, guard, middle, 2), unit(1, guard, 5, 2), unit(0, scout, 2, 1))
	wantBlocked(t, first, 0, 5, 7, 8)
	wantBlocked(t, first, 1, 1, 2, 3, 4, 6, 7)
	other := frontWith(unit(0, guard, middle, 2), unit(1, guard, 5, 2), unit(1, scout, 2, 1))
	wantBlocked(t, other, 0, 2, 5, 7, 8)
	wantBlocked(t, other, 1, 1, 3, 4, 6, 7)
	row := rearOf(3).having(unit(0, guard, 0, 1), unit(1, guard, 2, 1))
	wantBlocked(t, row, 0, 1, 2)
	wantBlocked(t, row, 1, 0, 1)
}

// A river stops the zone, unless a road leads over it.
func TestHexesBeyondRivers(t *testing.T) {
	for side := range 2 {
		for d, k := range aroundMiddle {
			x := frontWith(unit(1-side, guard, middle, 1))
			x.board = riverBoard(d)
			wantBlocked(t, x, side, append(without(aroundMiddle, k), middle)...)
			for _, b := range []impl.Board{bridgeBoard(d), roadBoard(d)} {
				x.board = b
				wantBlocked(t, x, side, append(without(aroundMiddle), middle)...)
			}
			// The enemy beyond the river blocks its own hex all the same.
			x = frontWith(unit(1-side, scout, k, 1))
			x.board = riverBoard(d)
			wantBlocked(t, x, side, k)
			wantBlocked(t, x, 1-side)
		}
	}
}

// What the enemy can enter is blocked, whoever else can enter it, and what it
// cannot enter is not.
func TestBlockedHexesOfAllTerrains(t *testing.T) {
	b := frontBoard(3, plain, ridge, path, sea, plain, rock, plain, plain, plain)
	for side := range 2 {
		x := depot{board: b, state: stateOf(unit(1-side, guard, middle, 1))}
		wantBlocked(t, x, side, 1, 4, 6, 7)
		x.state = stateOf(unit(1-side, boat, 3, 1))
		wantBlocked(t, x, side, 3)
		x.board.Map.Terrain = []int{sea, sea, path, sea, plain, rock, sea, plain, plain}
		wantBlocked(t, x, side, 0, 1, 3, 6)
	}
}

// blockedOf returns the hexes that are blocked for a side.
func blockedOf(t *testing.T, x depot, side int) []int {
	t.Helper()
	return hexesBySearch(x.board, func(i int) bool {
		is, ok := x.blocked(side, i)
		if !ok {
			t.Fatalf("SupplyBlocked of %d for side %d in %v fails", i, side, x)
		}
		return is
	})
}

// The hex of a unit is never blocked for its own side, always for the other one,
// and an empty hex if it is in the zone of the other side.
func TestBlockedHexesFollowFromZones(t *testing.T) {
	blocked := 0
	for _, x := range depots() {
		for side := range 2 {
			list := blockedOf(t, x, side)
			blocked += len(list)
			for i := range x.board.Map.Terrain {
				owner, _ := impl.OwnerOf(x.board, x.state, i)
				want, _ := impl.InZone(x.board, x.state, 1-side, i)
				if owner != -1 {
					want = owner != side
				}
				if slices.Contains(list, i) != want {
					t.Fatalf("the hex %d with the owner %d in %v: want %v", i, owner, x, want)
				}
			}
			swapped, _ := impl.SwapSides(x.board, x.state)
			wantBlocked(t, depot{x.board, swapped, nil}, 1-side, list...)
		}
	}
	if blocked < 1000 {
		t.Errorf("only %d hexes are blocked", blocked)
	}
}

// SupplyDistances of the document's example.
func TestDistanceOfASource(t *testing.T) {
	wantLengths(t, depot{exampleBoard(), stateOf(), []int{0}}, 0, 0, 0, -1, -1)
	wantLengths(t, depot{exampleBoard(), stateOf(), []int{0, 2}}, 1, 0, 0, -1, 0)
	wantLengths(t, depot{exampleBoard(), stateOf(), []int{1}}, 0, 0, -1, -1, -1)
	wantLengths(t, rearOf(1, 0), 0, guard, 0)
	wantLengths(t, rearOf(1), 0, guard, -1)
	for _, i := range []int{0, middle, 8} {
		list, ok := frontWith().from(i).distances(1, scout)
		if !ok || list[i] != 0 {
			t.Errorf("the distance of the source %d: %v, %v", i, list, ok)
		}
	}
}

func TestDistancesFromSeveralSources(t *testing.T) {
	x := rearOf(7)
	wantLengths(t, x, 0, guard, -1, -1, -1, -1, -1, -1, -1)
	wantLengths(t, x.from(3), 0, guard, 3, 2, 1, 0, 1, 2, 3)
	wantLengths(t, x.from(0, 5), 0, guard, 0, 1, 2, 2, 1, 0, 1)
	wantLengths(t, x.from(0, 1, 6), 1, scout, 0, 0, 1, 2, 2, 1, 0)
	wantLengths(t, x.from(0, 1, 2, 3, 4, 5), 1, guard, 0, 0, 0, 0, 0, 0, 1)
	wantLengths(t, x.from(1, 2, 3, 4, 5, 6), 1, guard, 1, 0, 0, 0, 0, 0, 0)
	wantLengths(t, frontWith().from(0), 0, guard, 0, 1, 2, 1, 2, 3, 2, 3, 4)
	wantLengths(t, frontWith().from(0, 8), 0, guard, 0, 1, 2, 1, 2, 1, 2, 1, 0)
	wantLengths(t, frontWith().from(6), 0, guard, 2, 2, 2, 1, 1, 2, 0, 1, 2)
}

// Costs, rivers and Supply play no part for the steps.
func TestDistancesCountSteps(t *testing.T) {
	b := frontRow(plain, ridge, ridge, plain)
	b.Map.Rivers = []int{0, 3, 6}
	for _, supply := range []int{0, 1, 2, 20} {
		wantLengths(t, depot{b, stateOf(), []int{0}}.within(supply), 0, guard, 0, 1, 2, 3)
		wantLengths(t, depot{b, impl.State{Turn: 10, Weather: 2}, []int{3}}.within(supply), 1, guard, 3, 2, 1, 0)
	}
}

// No way begins with a source that is blocked, also where others are open, or
// with one that the kind cannot enter.
func TestDistancesFromClosedSources(t *testing.T) {
	enemy := rearOf(7).having(unit(1, scout, 3, 1))
	wantLengths(t, enemy.from(3), 0, guard, -1, -1, -1, -1, -1, -1, -1)
	wantLengths(t, enemy.from(0, 3), 0, guard, 0, 1, 2, -1, -1, -1, -1)
	wantLengths(t, enemy.from(3), 1, guard, 3, 2, 1, 0, 1, 2, 3)
	zone := rearOf(7).having(unit(1, guard, 3, 1))
	wantLengths(t, zone.from(2, 6), 0, guard, -1, -1, -1, -1, -1, 1, 0)
	wantLengths(t, zone.from(2, 3, 4), 0, guard, -1, -1, -1, -1, -1, -1, -1)
	wantLengths(t, zone.from(2, 6), 1, guard, 2, 1, 0, 1, 2, 1, 0)
	// A unit of the side on the source opens it again.
	held := rearOf(7).having(unit(1, guard, 3, 1), unit(0, scout, 2, 1))
	wantLengths(t, held.from(2, 6), 0, guard, 2, 1, 0, -1, -1, 1, 0)
	wantLengths(t, held.from(2, 6), 1, guard, -1, -1, -1, 3, 2, 1, 0)
	ridges := depot{frontRow(plain, ridge, plain), stateOf(), []int{1}}
	wantLengths(t, ridges, 0, guard, 1, 0, 1)
	wantLengths(t, ridges, 0, scout, -1, -1, -1)
	wantLengths(t, ridges, 0, boat, -1, -1, -1)
	wantLengths(t, ridges.from(0, 1), 0, scout, 0, -1, -1)
	wantLengths(t, depot{frontRow(sea, plain), stateOf(), []int{0, 1}}, 0, boat, 0, -1)
}

// The kind of the distances plays a part for what can be entered alone: its unit
// need not exist, and units of other kinds open hexes as well.
func TestDistancesOfKinds(t *testing.T) {
	b := frontBoard(3, plain, path, plain, plain, ridge, plain, sea, sea, sea)
	x := depot{b, stateOf(), []int{0}}
	wantLengths(t, x, 0, guard, 0, -1, 3, 1, 2, 3, -1, -1, -1)
	wantLengths(t, x, 0, scout, 0, 1, 2, 1, -1, 3, -1, -1, -1)
	wantLengths(t, x.from(0, 7), 0, boat, -1, -1, -1, -1, -1, -1, 1, 0, 1)
	// The enemy's guard controls the ridge, where a guard keeps the way open.
	x = x.having(unit(1, guard, 5, 1))
	wantLengths(t, x, 0, guard, 0, -1, -1, 1, -1, -1, -1, -1, -1)
	x = x.having(unit(1, guard, 5, 1), unit(0, guard, 4, 1))
	wantLengths(t, x, 0, guard, 0, -1, -1, 1, 2, -1, -1, -1, -1)
	wantLengths(t, x, 0, scout, 0, 1, -1, 1, -1, -1, -1, -1, -1)
}

// Around the middle, ways are longer than through it.
func TestDistancesAroundBlockedHexes(t *testing.T) {
	open := frontWith().from(3)
	wantLengths(t, open, 0, guard, 1, 1, 2, 0, 1, 2, 1, 2, 3)
	around := frontWith(unit(1, scout, middle, 1)).from(3)
	wantLengths(t, around, 0, guard, 1, 1, 2, 0, -1, 3, 1, 2, 3)
	wantLengths(t, around, 1, guard, 1, 1, 2, 0, 1, 2, 1, 2, 3)
	// A zone closes the way around as well.
	wantLengths(t, frontWith(unit(1, guard, middle, 1)).from(0), 0, guard, 0, -1, -1, -1, -1, -1, -1, -1, -1)
	// The way along a wall is longer than the map is wide.
	wall := frontBoard(4, 0, 0, 0, 0, rock, rock, rock, 0, 0, 0, 0, 0, 0, rock, rock, rock, 0, 0, 0, 0)
	wantLengths(t, depot{wall, stateOf(), []int{0}}, 0, scout, 0, 1, 2, 3, -1, -1, -1, 4, 7, 6, 5, 5, 7, -1, -1, -1, 8, 9, 10, 11)
}
