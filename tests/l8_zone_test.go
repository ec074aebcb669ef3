package tests

import (
	"fmt"
	"slices"
	"testing"

	"loop.example/g00886/impl"
)

func TestControlCodes(t *testing.T) {
	if impl.CtNone != -1 || impl.CtFirst != 0 || impl.CtOther != 1 || impl.CtBoth != 2 {
		t.Error(impl.CtNone, impl.CtFirst, impl.CtOther, impl.CtBoth)
	}
}

// The other tests rely on the hexes and edges around the middle.
func TestMiddleOfTheFront(t *testing.T) {
	for d, k := range aroundMiddle {
		if next := nextBySearch(plainFront(), middle, d); next != k {
			t.Errorf("the neighbour of the middle in direction %d is %d, want %d", d, next, k)
		}
		e, ok := impl.EdgeOf(plainFront().Map, middle, d)
		wantNumber(t, fmt.Sprint("EdgeOf the middle and ", d), e, ok, edgesOfMiddle[d])
	}
}

// A unit controls its neighbours, not its own hex nor those farther away, and
// the other side has no zone from it.
func TestZoneOfOneUnit(t *testing.T) {
	b := plainFront()
	for side := range 2 {
		for steps := 1; steps <= 2; steps++ {
			s := stateOf(unit(side, guard, middle, steps))
			wantZone(t, b, s, side, 1, 2, 3, 5, 6, 7)
			wantZone(t, b, s, 1-side)
			wantContested(t, b, s)
			for i := range 9 {
				wantSources(t, b, s, 1-side, i)
			}
			for _, i := range aroundMiddle {
				wantSources(t, b, s, side, i, 0)
			}
			for _, i := range []int{0, middle, 8} {
				wantSources(t, b, s, side, i)
			}
		}
	}
}

func TestNoZone(t *testing.T) {
	b := plainFront()
	for side := range 2 {
		// A kind without Zone, and units off the map, also one without steps.
		for _, s := range []impl.State{
			{}, stateOf(unit(side, scout, middle, 1)), stateOf(unit(side, guard, -1, 2)), stateOf(unit(side, guard, -1, 0)),
			stateOf(unit(side, guard, -1, 1), unit(side, scout, 0, 1), unit(side, boat, -1, 1), unit(side, scout, 8, 1)),
		} {
			for x := range 2 {
				wantZone(t, b, s, x)
				for i := range 9 {
					wantSources(t, b, s, x, i)
				}
			}
			wantContested(t, b, s)
		}
	}
}

// In the hex of a unit there is the zone of another unit of its side beside it,
// but not that of one in the same hex.
func TestZoneInTheHexOfAUnit(t *testing.T) {
	b := plainFront()
	s := stateOf(unit(0, guard, middle, 2), unit(0, guard, middle, 1))
	wantZone(t, b, s, 0, 1, 2, 3, 5, 6, 7)
	wantSources(t, b, s, 0, middle)
	s.Units[1].At = 5
	wantZone(t, b, s, 0, 1, 2, 3, 4, 5, 6, 7, 8)
	wantSources(t, b, s, 0, middle, 1)
	wantSources(t, b, s, 0, 5, 0)
	// Units of the other side are in the zone as well, and those without Zone.
	s = stateOf(unit(0, guard, middle, 2), unit(1, guard, 5, 2), unit(0, scout, 3, 1))
	wantZone(t, b, s, 0, 1, 2, 3, 5, 6, 7)
	wantZone(t, b, s, 1, 2, 4, 7, 8)
	wantContested(t, b, s, 2, 7)
}

// riverBoards return plainFront with a river, with a river and a road, and with
// a road alone on the edge from the middle in a direction.
func riverBoard(d int) impl.Board {
	b := plainFront()
	b.Map.Rivers = []int{edgesOfMiddle[d]}
	return b
}

func bridgeBoard(d int) impl.Board {
	b := riverBoard(d)
	b.Map.Roads = []int{edgesOfMiddle[d]}
	return b
}

func roadBoard(d int) impl.Board {
	b := bridgeBoard(d)
	b.Map.Rivers = nil
	return b
}

func TestZoneOverRivers(t *testing.T) {
	for d, k := range aroundMiddle {
		from := stateOf(unit(1, guard, middle, 2))
		wantZone(t, riverBoard(d), from, 1, without(aroundMiddle, k)...)
		wantZone(t, bridgeBoard(d), from, 1, without(aroundMiddle)...)
		wantZone(t, roadBoard(d), from, 1, without(aroundMiddle)...)
		// From the other end of the edge.
		back := stateOf(unit(1, guard, k, 2))
		wantSources(t, riverBoard(d), back, 1, middle)
		wantSources(t, bridgeBoard(d), back, 1, middle, 0)
		wantSources(t, roadBoard(d), back, 1, middle, 0)
		wantSources(t, plainFront(), back, 1, middle, 0)
	}
}

// A road on another edge does not help over a river, and a river beyond a
// neighbour does not hinder.
func TestZoneAndOtherEdges(t *testing.T) {
	all := edgeNumbers(3, 3)
	for d, k := range aroundMiddle {
		s := stateOf(unit(0, guard, middle, 1))
		b := riverBoard(d)
		b.Map.Roads = without(all, edgesOfMiddle[d])
		wantZone(t, b, s, 0, without(aroundMiddle, k)...)
		b.Map.Rivers, b.Map.Roads = without(all, edgesOfMiddle[d]), nil
		wantZone(t, b, s, 0, k)
		b.Map.Roads = all
		wantZone(t, b, s, 0, without(aroundMiddle)...)
		b.Map.Rivers, b.Map.Roads = all, []int{edgesOfMiddle[d]}
		wantZone(t, b, s, 0, k)
		b.Map.Rivers, b.Map.Roads = without(all, edgesOfMiddle...), nil
		wantZone(t, b, s, 0, without(aroundMiddle)...)
	}
}

// A road costs what it does, but opens no hex: what a kind cannot enter, it
// does not control.
func TestZoneOfClosedHexes(t *testing.T) {
	for d, k := range aroundMiddle {
		for _, b := range []impl.Board{plainFront(), riverBoard(d), bridgeBoard(d), roadBoard(d)} {
			s := stateOf(unit(0, guard, middle, 2))
			for _, closed := range []int{path, sea, rock} {
				b.Map.Terrain[k] = closed
				wantZone(t, b, s, 0, without(aroundMiddle, k)...)
			}
			b.Map.Terrain[k] = ridge
			if len(b.Map.Rivers) > len(b.Map.Roads) {
				wantZone(t, b, s, 0, without(aroundMiddle, k)...)
			} else {
				wantZone(t, b, s, 0, without(aroundMiddle)...)
			}
		}
	}
}

// Each kind controls what it enters itself, not what another kind of its side
// or the other side enters.
func TestZoneByKinds(t *testing.T) {
	//  0 sea    1 plain  2 sea
	//  3 plain  4 sea    5 ridge
	//  6 rock   7 path   8 sea
	b := frontBoard(3, sea, plain, sea, plain, sea, ridge, rock, path, sea)
	s := stateOf(unit(0, boat, 4, 1), unit(0, guard, 5, 1), unit(1, guard, 1, 2), unit(1, boat, 8, 1))
	wantZone(t, b, s, 0, 2)
	wantZone(t, b, s, 1, 3)
	wantSources(t, b, s, 0, 2, 0)
	wantSources(t, b, s, 1, 3, 2)
	wantContested(t, b, s)
	// A scout enters the path, but has no zone; with a zone, it controls what
	// it enters, and the guard does not control any more.
	s = stateOf(unit(0, scout, 7, 1), unit(0, guard, 3, 1))
	wantZone(t, b, s, 0, 1)
	b.Map.Terrain[4] = path
	wantZone(t, b, s, 0, 1)
	b.Rules.Kinds[scout].Zone, b.Rules.Kinds[guard].Zone = true, false
	wantZone(t, b, s, 0, 4)
}

// At the borders of a map there is no zone beyond them, nor at the other end of
// a row.
func TestZoneAtBorders(t *testing.T) {
	b := plainFront()
	for at, want := range [][]int{{1, 3}, {0, 2, 3, 4}, {1, 4, 5}, {0, 1, 4, 6}, {1, 2, 3, 5, 6, 7}, {2, 4, 7, 8}, {3, 4, 7}, {4, 5, 6, 8}, {5, 7}} {
		wantZone(t, b, stateOf(unit(0, guard, at, 1)), 0, want...)
	}
	wantZone(t, frontBoard(1, plain), stateOf(unit(0, guard, 0, 1)), 0)
	row, column := frontBoard(4, 0, 0, 0, 0), frontBoard(1, 0, 0, 0, 0)
	for at, want := range [][]int{{1}, {0, 2}, {1, 3}, {2}} {
		wantZone(t, row, stateOf(unit(1, guard, at, 1)), 1, want...)
		wantZone(t, column, stateOf(unit(1, guard, at, 1)), 1, want...)
	}
	far := frontBoard(10, make([]int, 100)...)
	for at, want := range map[int][]int{0: {1, 10}, 9: {8, 18, 19}, 10: {0, 1, 11, 20}, 19: {9, 18, 28, 29}, 90: {80, 81, 91}, 99: {89, 98}} {
		wantZone(t, far, stateOf(unit(0, guard, at, 1)), 0, want...)
	}
}

// Sources are increasing, wherever the units are, with several hexes, a stack,
// kinds without Zone and units off the map.
func TestSourcesOfAHex(t *testing.T) {
	b := plainFront()
	s := stateOf(unit(0, guard, 7, 1), unit(1, guard, 2, 1), unit(0, guard, 1, 2), unit(0, guard, -1, 2), unit(0, scout, 6, 1),
		unit(0, guard, 7, 2), unit(1, guard, 5, 1), unit(0, guard, 3, 1), unit(0, guard, 8, 1), unit(1, guard, 2, 2), unit(0, scout, 7, 1))
	wantSources(t, b, s, 0, middle, 0, 2, 5, 7)
	wantSources(t, b, s, 1, middle, 1, 6, 9)
	wantSources(t, b, s, 0, 0, 2, 7)
	wantSources(t, b, s, 1, 0)
	wantSources(t, b, s, 0, 8, 0, 5)
	wantSources(t, b, s, 1, 8, 6)
	wantSources(t, b, s, 0, 7, 8)
	wantSources(t, b, s, 1, 2, 6)
	wantSources(t, b, s, 1, 7, 6)
	wantZone(t, b, s, 0, 0, 1, 2, 3, 4, 5, 6, 7, 8)
	wantZone(t, b, s, 1, 1, 2, 4, 5, 7, 8)
	wantContested(t, b, s, 1, 2, 4, 5, 7, 8)
	// All units that there may be, in a stack of four and in others.
	var units []impl.Unit
	for n := range 12 {
		units = append(units, unit(1, guard, []int{5, 1, 3}[n%3], 2))
	}
	wantSources(t, b, stateOf(units...), 1, middle, 0, 1, 2, 3, 4, 5, 6, 7, 8, 9, 10, 11)
}

func TestContestedHexes(t *testing.T) {
	b := frontBoard(5, make([]int, 5)...)
	for _, c := range []struct {
		units []impl.Unit
		want  []int
	}{
		{[]impl.Unit{unit(0, guard, 0, 1), unit(1, guard, 2, 1)}, []int{1}},
		{[]impl.Unit{unit(1, guard, 0, 1), unit(0, guard, 2, 1), unit(1, guard, 4, 1)}, []int{1, 3}},
		{[]impl.Unit{unit(0, guard, 0, 1), unit(0, guard, 2, 1)}, nil},
		{[]impl.Unit{unit(1, guard, 0, 1), unit(1, guard, 2, 1)}, nil},
		{[]impl.Unit{unit(0, guard, 0, 1), unit(1, guard, 3, 1)}, nil},
		{[]impl.Unit{unit(0, guard, 0, 1), unit(1, guard, 1, 1)}, nil},
		{[]impl.Unit{unit(0, guard, 0, 1), unit(1, scout, 2, 1)}, nil},
		{[]impl.Unit{unit(0, guard, 0, 1), unit(1, guard, 2, 1), unit(0, scout, 1, 1)}, []int{1}},
		{[]impl.Unit{unit(0, guard, 0, 1), unit(1, guard, 2, 1), unit(1, scout, 1, 1)}, []int{1}},
		{[]impl.Unit{unit(0, guard, 0, 1), unit(1, guard, 2, 1), unit(0, guard, 1, 1), unit(1, guard, 3, 1)}, []int{1, 2}},
	} {
		wantContested(t, b, stateOf(c.units...), c.want...)
	}
	b.Map.Rivers = []int{0}
	wantContested(t, b, stateOf(unit(0, guard, 0, 1), unit(1, guard, 2, 1)))
	b.Map.Rivers, b.Map.Terrain[1] = nil, sea
	wantContested(t, b, stateOf(unit(0, guard, 0, 1), unit(1, guard, 2, 1)))
}

// Turn, weather and the number of steps play no part.
func TestZonesInAllTurns(t *testing.T) {
	b := plainFront()
	for turn := range 11 {
		for weather := range 3 {
			for steps := 1; steps <= 2; steps++ {
				s := impl.State{Turn: turn, Weather: weather, Units: []impl.Unit{unit(0, guard, 0, steps), unit(1, guard, 2, 3-steps)}}
				wantZone(t, b, s, 0, 1, 3)
				wantZone(t, b, s, 1, 1, 4, 5)
				wantContested(t, b, s, 1)
			}
		}
	}
}

// A hex is in a zone exactly if a unit exerts control on it.
func TestZonesHaveSources(t *testing.T) {
	found := 0
	for _, p := range fronts() {
		var zones [2][]int
		for side := range 2 {
			list, ok := impl.ZoneHexes(p.board, p.state, side)
			if !ok {
				t.Fatalf("ZoneHexes of %v fails", p)
			}
			wantIncreasing(t, fmt.Sprint("ZoneHexes of ", p), list)
			for i := range p.board.Map.Terrain {
				sources, ok := impl.ZoneSources(p.board, p.state, side, i)
				wantIncreasing(t, fmt.Sprint("ZoneSources of ", p), sources)
				is, ok2 := impl.InZone(p.board, p.state, side, i)
				if !ok || !ok2 || is != (len(sources) > 0) || is != slices.Contains(list, i) {
					t.Fatalf("hex %d of %v: %v with the sources %v of the zone %v", i, p, is, sources, list)
				}
			}
			zones[side] = list
		}
		both := hexesBySearch(p.board, func(i int) bool { return slices.Contains(zones[0], i) && slices.Contains(zones[1], i) })
		wantContested(t, p.board, p.state, both...)
		found += len(both)
	}
	if found < 50 {
		t.Errorf("only %d hexes are contested", found)
	}
}
