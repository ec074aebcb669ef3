package tests

import (
	"fmt"
	"math/rand"
	"slices"
	"testing"

	"loop.example/g00886/impl"
)

// A unit that has not moved leaves a zone unless it goes to a hex of the same
// zone; one that has moved stays where it is in a zone.
func TestZoneReasons(t *testing.T) {
	for side := range 2 {
		// The enemy's zone has the hexes 0, 2, 3 and 4, but not its own one.
		for at, reasons := range map[int][6]int{
			0: {0, -1, -1, -1, -1, 5}, 2: {-1, -1, -1, 0, 5, 0}, 3: {5, 0, 5, -1, -1, 0}, 4: {0, 5, 0, 5, 0, 0},
			5: {-1, -1, 0, 0, 0, 0}, 6: {0, 0, 0, -1, -1, -1}, 7: {0, 0, 0, 0, -1, -1}, 8: {-1, -1, 0, 0, -1, -1},
		} {
			for _, kind := range []int{guard, scout} {
				p := position{plainFront(), stateOf(unit(side, kind, at, 1), unit(1-side, guard, 1, 1))}
				for d, reason := range reasons {
					wantZoneReason(t, p, 0, d, false, reason)
					if reason != -1 && slices.Contains([]int{0, 2, 3, 4}, at) {
						reason = impl.ReZone
					}
					wantZoneReason(t, p, 0, d, true, reason)
				}
			}
		}
	}
}

// Zones of the own side do not count, nor do enemies without a zone or off the
// map. Where the zones of two enemies meet, it is one zone.
func TestZonesOfEnemies(t *testing.T) {
	p := lane(6, unit(0, guard, 2, 1), unit(0, guard, 0, 1), unit(0, guard, 4, 1), unit(1, scout, 3, 1), unit(1, guard, -1, 1), unit(1, guard, -1, 0))
	for u := range 3 {
		for _, d := range []int{onwards, backwards} {
			want := impl.ReGo
			if u == 1 && d == backwards {
				want = -1
			}
			wantZoneReason(t, p, u, d, false, want)
			wantZoneReason(t, p, u, d, true, want)
		}
	}
	// In the hex 3, the unit 3 is in the zones of the units 0 and 2.
	wantZoneReason(t, p, 3, onwards, false, impl.ReGo)
	wantZoneReason(t, p, 3, backwards, true, impl.ReZone)
	p = lane(6, unit(1, guard, 0, 1), unit(0, scout, 1, 1), unit(1, guard, 3, 1), unit(0, scout, 4, 1), unit(1, guard, 5, 1))
	wantZoneReason(t, p, 1, onwards, false, impl.ReZone)
	wantZoneReason(t, p, 1, backwards, false, impl.ReGo)
	wantZoneReason(t, p, 3, onwards, false, impl.ReGo)
	p.state.Units[4].At = 3
	wantZoneReason(t, p, 3, onwards, false, impl.ReGo)
	wantZoneReason(t, p, 3, onwards, true, impl.ReZone)
}

// A river without a road bounds the zone of the enemy, but one under the step
// itself does not matter, nor does it whether the kind can enter the hex.
func TestZoneReasonsOverRivers(t *testing.T) {
	s := stateOf(unit(0, scout, 1, 1), unit(1, guard, 0, 1), unit(1, guard, 3, 1))
	// The edges of the row are 0, 3 and 6: 0 and 6 bound the zones, 3 is crossed.
	for mask := range 1 << 6 {
		var rivers, roads []int
		for n, edge := range []int{0, 3, 6} {
			if mask>>n&1 == 1 {
				rivers = append(rivers, edge)
			}
			if mask>>(n+3)&1 == 1 {
				roads = append(roads, edge)
			}
		}
		isOpen := func(edge int) bool { return !slices.Contains(rivers, edge) || slices.Contains(roads, edge) }
		p := position{withEdges(frontRow(plain, plain, plain, plain), rivers, roads), s}
		stays, moves := impl.ReGo, impl.ReGo
		if isOpen(0) {
			moves = impl.ReZone
		}
		if isOpen(0) && isOpen(6) {
			stays = impl.ReZone
		}
		wantZoneReason(t, p, 0, onwards, false, stays)
		wantZoneReason(t, p, 0, onwards, true, moves)
	}
	// Nobody can enter the rock, so that it is in no zone; the ridge is open for
	// guards alone, and the path for scouts alone.
	for terrain, want := range map[int]int{plain: impl.ReZone, ridge: impl.ReZone, path: impl.ReGo, sea: impl.ReGo, rock: impl.ReGo} {
		p := position{frontRow(plain, plain, terrain, plain), s}
		wantZoneReason(t, p, 0, onwards, false, want)
		wantZoneReason(t, p, 0, onwards, true, impl.ReZone)
	}
}

// ZoneReason fails for units that are not on the map, and in directions that lead
// to no neighbour or are none.
func TestNoZoneReasons(t *testing.T) {
	p := parade()
	for _, hasMoved := range []bool{false, true} {
		for _, u := range append([]int{2, 4, 5, 6, 12, 13, 1 << 32, -1 << 32}, outside...) {
			for d := -1; d <= 6; d++ {
				wantZoneReason(t, p, u, d, hasMoved, -1)
			}
		}
		for _, d := range append([]int{1, 2, 4, 5, 6, 7, 12, 1 << 32, 1<<32 + 3, -1 << 32}, outside...) {
			for _, u := range []int{0, 1, 3} {
				wantZoneReason(t, p, u, d, hasMoved, -1)
			}
		}
		wantZoneReason(t, p, 0, backwards, hasMoved, -1)
		wantZoneReason(t, p, 1, onwards, hasMoved, -1)
		wantZoneReason(t, p, 0, onwards, hasMoved, impl.ReGo)
		wantZoneReason(t, p, 1, backwards, hasMoved, impl.ReGo)
	}
	// Also in a zone, a step off the map has no reason.
	p = lane(2, unit(0, scout, 0, 1), unit(1, guard, 1, 1))
	wantZoneReason(t, p, 0, backwards, true, -1)
	wantZoneReason(t, p, 0, onwards, true, impl.ReZone)
}

func TestDrawnZoneReasons(t *testing.T) {
	counts := map[string]int{}
	for _, w := range crowds() {
		x := surveyOf(w.position)
		for u := -1; u <= len(w.state.Units); u++ {
			for d := -1; d <= 6; d++ {
				for _, hasMoved := range []bool{false, true} {
					want := w.zoneBySearch(x, u, d, hasMoved)
					wantZoneReason(t, w.position, u, d, hasMoved, want)
					counts[fmt.Sprint(want, hasMoved)]++
				}
			}
		}
	}
	for _, c := range []string{"-1 false", "-1 true", "0 false", "0 true", "5 false", "5 true"} {
		if counts[c] < 100 {
			t.Errorf("%s: %v", c, counts)
		}
	}
}

// A unit has an attempt for the direction with the number of the steps already
// made, from the hex where it is, as long as there is one.
func TestAttemptsOfSteps(t *testing.T) {
	p := position{plainFront(), stateOf(unit(0, scout, middle, 1), unit(1, scout, -1, 1))}
	for length := range 10 {
		way := []int{0, 1, 2, 3, 4, 5, 2, 1, 0}[:length]
		for done := -3; done <= 12; done++ {
			var want []impl.Attempt
			if 0 <= done && done < length {
				want = append(want, attempt(0, middle, aroundMiddle[way[done]]))
			}
			wantAttemptsAt(t, p, []impl.Order{order(0, -1, way...)}, []int{done}, want...)
		}
		for _, done := range append([]int{1 << 32, -1 << 32}, outside...) {
			wantAttemptsAt(t, p, []impl.Order{order(0, -1, way...)}, []int{done})
		}
	}
	// A path of nine steps, and one more, whatever was done of them.
	for n := range 20 {
		for _, done := range []int{-1, 0, 8, 9, n - 1, n} {
			orders := []impl.Order{order(0, -1, make([]int, n)...)}
			switch {
			case n > 9:
				wantNoAttemptsAt(t, p, orders, done)
			case 0 <= done && done < n:
				wantAttemptsAt(t, p, orders, []int{done}, attempt(0, middle, 5))
			default:
				wantAttemptsAt(t, p, orders, []int{done})
			}
		}
	}
	wantNoAttemptsAt(t, p, []impl.Order{order(0, -1, make([]int, 100000)...)}, 0)
}

// A direction that is none, that leads off the map or to a closed hex makes no
// attempt. Those before and after the next step do not matter, nor do Attack and
// Moves.
func TestStepsWithoutAttempts(t *testing.T) {
	b := frontRow(plain, ridge, plain, plain, sea)
	p := position{b, stateOf(unit(0, guard, 0, 1), unit(1, scout, 2, 1), unit(0, guard, 3, 1))}.moving(0)
	for _, d := range append([]int{1, 2, 3, 4, 5, 6, 7, -2, 1 << 32, -1 << 32}, outside...) {
		for _, attack := range []int{-1, 0, 99, outside[0]} {
			wantAttemptsAt(t, p, []impl.Order{order(0, attack, d)}, []int{0})
			wantAttemptsAt(t, p, []impl.Order{order(0, attack, 0, d, d)}, []int{0}, attempt(0, 0, 1))
			wantAttemptsAt(t, p, []impl.Order{order(0, attack, d, 0, d)}, []int{1}, attempt(0, 0, 1))
			wantAttemptsAt(t, p, []impl.Order{order(0, attack, d, d, d)}, []int{2})
			wantAttemptsAt(t, p, []impl.Order{order(0, attack, d), order(1, attack, 0, d), order(2, attack, d, 3)}, []int{0, 0, 1}, attempt(1, 2, 3), attempt(2, 3, 2))
		}
	}
	wantAttemptsAt(t, p, []impl.Order{order(1, -1, backwards), order(2, -1, onwards)}, []int{0, 0})
}

// A zone stands against the attempts of units that have made steps, and of those
// that go from zone to zone.
func TestAttemptsInZones(t *testing.T) {
	// The zone has the hexes 0, 2, 3 and 4.
	p := position{plainFront(), stateOf(unit(0, scout, middle, 1), unit(0, scout, 2, 1), unit(0, scout, 7, 1), unit(1, guard, 1, 1))}
	way := func(u int, path ...int) []impl.Order { return []impl.Order{order(u, -1, path...)} }
	wantAttemptsAt(t, p, way(0, 0), []int{0}, attempt(0, middle, 5))
	wantAttemptsAt(t, p, way(0, 3, 0), []int{0})
	wantAttemptsAt(t, p, way(0, 3, 0), []int{1})
	wantAttemptsAt(t, p, way(1, 5), []int{0}, attempt(1, 2, 5))
	wantAttemptsAt(t, p, way(1, 4), []int{0})
	wantAttemptsAt(t, p, way(2, 2, 2), []int{0}, attempt(2, 7, 4))
	wantAttemptsAt(t, p, way(2, 2, 2), []int{1}, attempt(2, 7, 4))
	wantAttemptsAt(t, p, way(3, 3, 0, 3), []int{0}, attempt(3, 1, 0))
	wantAttemptsAt(t, p, way(3, 3, 0, 3), []int{2}, attempt(3, 1, 0))
	all := []impl.Order{order(0, -1, 0), order(1, -1, 4), order(2, -1, 2, 2), order(3, -1, 0, 4)}
	wantAttemptsAt(t, p, all, []int{0, 0, 1, 1}, attempt(0, middle, 5), attempt(2, 7, 4), attempt(3, 1, 3))
	wantAttemptsAt(t, p, all, []int{1, 0, 2, 0}, attempt(3, 1, 2))
}

// Units are on the map and increase, and there is one number for each order.
func TestOrdersOfAttempts(t *testing.T) {
	p := parade()
	wantAttemptsAt(t, p, nil, nil)
	wantAttemptsAt(t, p, []impl.Order{}, []int{})
	orders := []impl.Order{order(0, -1, 0, 3), order(1, -1, 3, 0), order(3, -1)}
	wantAttemptsAt(t, p, orders, []int{0, 0, 0}, attempt(0, 0, 1), attempt(1, 5, 4))
	wantAttemptsAt(t, p, orders, []int{1, 0, 9}, attempt(1, 5, 4))
	for n := range 6 {
		if n != 3 {
			wantNoAttemptsAt(t, p, orders, make([]int, n)...)
		}
		if n != 2 {
			wantNoAttemptsAt(t, p, orders[1:], make([]int, n)...)
		}
		if n != 0 {
			wantNoAttemptsAt(t, p, nil, make([]int, n)...)
		}
	}
	for _, u := range append([]int{2, 4, 5, 6, 12, 1 << 32, -1 << 32}, outside...) {
		wantNoAttemptsAt(t, p, []impl.Order{order(u, -1, 0)}, 0)
		wantNoAttemptsAt(t, p, []impl.Order{order(u, -1)}, 9)
		wantNoAttemptsAt(t, p, []impl.Order{order(0, -1, 0), order(u, -1, 0)}, 0, 0)
		wantNoAttemptsAt(t, p, []impl.Order{order(u, -1, 0), order(3, -1, 0)}, 0, 0)
	}
	for _, units := range [][]int{{0, 0}, {1, 0}, {3, 1}, {0, 1, 1}, {0, 3, 1}, {1, 0, 3}, {0, 0, 3}, {3, 3, 3}} {
		wantNoAttemptsAt(t, p, staying(units...), make([]int, len(units))...)
	}
	// One path that is too long is enough, also if all its steps are made.
	for n := range orders {
		long := with(orders, n, order(orders[n].Unit, -1, make([]int, 10)...))
		wantNoAttemptsAt(t, p, long, 0, 0, 0)
		wantNoAttemptsAt(t, p, long, 10, 10, 10)
	}
}

// Orders of all units, of both sides.
func TestAttemptsOfManyOrders(t *testing.T) {
	p, l := queue(12, func(u int) int { return u % 2 })
	var orders []impl.Order
	for u := range 12 {
		d := onwards
		if u == 9 {
			d = 5
		} else if u > 9 {
			d = backwards
		}
		orders = append(orders, order(u, -1, d))
	}
	wantAttemptsAt(t, p, orders, make([]int, 12), append(l, attempt(11, 18, 17))...)
	wantNoAttemptsAt(t, p, append(orders, order(12, -1)), make([]int, 13)...)
	wantNoAttemptsAt(t, p, append(orders, order(11, -1)), make([]int, 13)...)
	wantNoAttemptsAt(t, p, slices.Repeat(orders, 1000), make([]int, 12000)...)
}

// Drawn orders, also wrong ones, have the attempts of the contract.
func TestDrawnAttemptsAt(t *testing.T) {
	random := rand.New(rand.NewSource(157))
	counts := map[string]int{}
	for _, w := range crowds() {
		for range 5 {
			var orders []impl.Order
			var done []int
			for u, v := range w.state.Units {
				if v.At == -1 && random.Intn(60) > 0 || random.Intn(4) == 0 {
					continue
				}
				orders = append(orders, order(u, random.Intn(9)-2, drawnPath(random)...))
				done = append(done, random.Intn(11)-1)
				if random.Intn(3) > 0 {
					done[len(done)-1] = random.Intn(2)
				}
			}
			switch random.Intn(12) {
			case 0:
				orders = append(orders, anyOrder(random, w))
				done = append(done, 0)
			case 1:
				done = append(done, 0)
			}
			list, ok := w.attemptsBySearch(orders, done)
			counts[fmt.Sprint(ok, min(len(list), 1))]++
			wantAnyAttemptsAt(t, w, orders, done)
		}
	}
	if counts["true 1"] < 1000 || counts["true 0"] < 100 || counts["false 0"] < 300 {
		t.Errorf("lists of attempts: %v", counts)
	}
}
