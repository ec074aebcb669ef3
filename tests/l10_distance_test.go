package tests

import (
	"fmt"
	"math"
	"math/rand"
	"slices"
	"testing"

	"loop.example/g00886/impl"
)

// exampleTrip returns a trip over the board of the document's example.
func exampleTrip(from, to int) trip {
	return trip{board: impl.Board{Rules: costRules(3, 2), Map: plainMap(3, 1)}, from: from, to: to}
}

func TestDistancesOfTheExample(t *testing.T) {
	wantDistances(t, exampleTrip(0, 2), 0, 2, 4)
	wantDistances(t, exampleTrip(1, 2), 2, 0, 2)
	wantCheapestPath(t, exampleTrip(0, 2), 1, 0, 0)
	wantTurns(t, exampleTrip(0, 2), 2)
	wantFarthest(t, exampleTrip(0, 2), 4, 2)
	wantFarthest(t, exampleTrip(1, 2), 2, 0, 2)
	wantMeeting(t, exampleTrip(0, 2), 1)
	wantDetour(t, exampleTrip(0, 2), 4)
	wantDetour(t, exampleTrip(0, 2), -1, 1)
}

// Only what is entered costs something, so that distances differ by direction.
func TestDistancesByDirection(t *testing.T) {
	b := trailRow(meadow, thicket, thicket, meadow)
	wantDistances(t, walk(b, 0, 0), 0, 8, 16, 19)
	wantDistances(t, walk(b, 3, 0), 19, 16, 8, 0)
	wantDistances(t, walk(b, 1, 0), 3, 0, 8, 11)
	b = trailRow(thicket, meadow, meadow)
	wantDistances(t, walk(b, 0, 0), 0, 3, 6)
	wantDistances(t, walk(b, 2, 0), 11, 3, 0)
	wantCheapestPath(t, walk(b, 2, 0), 1, 3, 3)
	wantDetour(t, walk(b, 2, 0), 11)
	wantDetour(t, walk(b, 0, 2), 6)
}

// A road over a river, then a river, then neither, in each weather.
func TestDistancesAlongRoads(t *testing.T) {
	b := withEdges(trailRow(meadow, meadow, thicket, meadow), []int{0, 3}, []int{0})
	for weather, want := range [][]int{{0, 5, 17, 20}, {0, 5, 18, 22}, {0, 6, 20, 25}} {
		wantDistances(t, walk(b, 0, 0).in(weather), want...)
	}
	for weather, want := range [][]int{{15 + 5, 7 + 8, 8, 0}, {17 + 5, 8 + 9, 9, 0}, {19 + 6, 9 + 10, 10, 0}} {
		wantDistances(t, walk(b, 3, 0).in(weather), want...)
	}
	// Between two ways around a corner, one of them over a river, roads decide: if
	// they are cheaper than the terrain, or in bad weather as cheap as it.
	b = withEdges(trailBoard(2, meadow, meadow, meadow, meadow), []int{11}, nil)
	wantCheapestPath(t, walk(b, 0, 3), 1, 5, 0)
	b.Map.Roads = []int{0, 11}
	b.Rules.Road = 2
	wantCheapestPath(t, walk(b, 0, 3), 1, 0, 5)
	b.Rules.Road = 4
	wantCheapestPath(t, walk(b, 0, 3), 1, 5, 0)
	wantCheapestPath(t, walk(b, 0, 3).in(1), 2, 0, 5)
	wantCheapestPath(t, walk(b, 0, 3).in(2), 2, 0, 5)
}

func TestHexesThatAreNotReached(t *testing.T) {
	b := trailRow(meadow, meadow, cliff, meadow, lake)
	wantDistances(t, walk(b, 0, 0), 0, 3, -1, -1, -1)
	wantDistances(t, walk(b, 3, 0), -1, -1, -1, 0, -1)
	wantDistances(t, walk(b, 0, 0).by(raft), 0, -1, -1, -1, -1)
	wantDistances(t, walk(b, 3, 0).by(raft), -1, -1, -1, 0, 9)
	wantDistances(t, walk(b, 4, 0).by(raft).in(2), -1, -1, -1, -1, 0)
	// A road does not open a hex, and no step leads around the end of a row.
	wantDistances(t, walk(withEdges(b, nil, []int{0, 3, 6, 9}), 0, 0), 0, 5, -1, -1, -1)
	wantDistances(t, walk(trailBoard(2, meadow, cliff, cliff, meadow), 0, 0), 0, -1, -1, -1)
	for _, k := range []int{2, 3, 4} {
		wantNoWay(t, walk(b, 0, k))
		wantNoWay(t, walk(b, 1, k).in(2))
	}
}

// The hex where a way begins may be closed, but no step leads back into it.
func TestDistancesFromClosedHexes(t *testing.T) {
	b := trailRow(meadow, cliff, thicket, meadow)
	wantDistances(t, walk(b, 1, 0), 3, 0, 8, 11)
	wantDistances(t, walk(b, 0, 0), 0, -1, -1, -1)
	wantDistances(t, walk(b, 2, 0), -1, -1, 0, 3)
	wantCheapestPath(t, walk(b, 1, 3), 1, 0, 0)
	wantNoWay(t, walk(b, 3, 1))
	wantNoWay(t, walk(b, 0, 3))
	wantTurns(t, trip{withMoves(b, 8), walker, 0, 1, 3}, 2)
	for kind := range 4 {
		wantStay(t, walk(b, 1, 1).by(kind).in(kind%3))
	}
}

// wantStay requires the results of a trip that is at its end where it begins.
func wantStay(t *testing.T, x trip) {
	t.Helper()
	wantCheapestPath(t, x, 1)
	wantTurns(t, x, 0)
	wantMeeting(t, x, x.from)
	wantDetour(t, x, 0)
	wantDetour(t, x, 0, x.from)
	wantDetour(t, x, 0, hexesBySearch(x.board, func(int) bool { return true })...)
	wantReach(t, x, 0, x.from)
}

func TestTripsThatEndWhereTheyBegin(t *testing.T) {
	for n, b := range journeys()[:40] {
		for kind := range b.Rules.Kinds {
			for i := range min(len(b.Map.Terrain), 20) {
				wantStay(t, trip{b, kind, n % 3, i, i})
			}
		}
	}
}

// statue can step nowhere, nor can anybody on a map of one hex.
func TestDistancesWithoutSteps(t *testing.T) {
	for _, b := range []impl.Board{park(), trailRow(meadow), trailRow(cliff), trailRow(cliff, meadow), trailBoard(1, lake, thicket)} {
		n := len(b.Map.Terrain)
		for i := range n {
			alone := slices.Repeat([]int{-1}, n)
			alone[i] = 0
			wantDistances(t, walk(b, i, i).by(statue), alone...)
			wantFarthest(t, walk(b, i, i).by(statue), 0, i)
			for k := range n {
				if k != i {
					wantNoWay(t, walk(b, i, k).by(statue))
					wantMeeting(t, walk(b, i, k).by(statue), -1)
				}
			}
		}
	}
	for kind := range 4 {
		for terrain := range 4 {
			x := walk(trailRow(terrain), 0, 0).by(kind).in(terrain % 3)
			wantDistances(t, x, 0)
			wantStay(t, x)
		}
	}
}

// From the corner of a plain, the distance is the number of steps.
func TestDistancesOnTheGreatestMap(t *testing.T) {
	b := impl.Board{Rules: costRules(9, 1, 0), Map: plainMap(10, 10)}
	for _, i := range []int{0, 9, 44, 90, 99} {
		for weather := range 3 {
			var want []int
			for k := range 100 {
				want = append(want, farBySearch(b, i, k)*(1+weather))
			}
			wantDistances(t, trip{board: b, weather: weather, from: i}, want...)
		}
	}
	wantFarthest(t, trip{board: b}, 18, 99)
	wantFarthest(t, trip{board: b, from: 9}, 9, hexesBySearch(b, func(k int) bool { return k%10 == 0 || k >= 90 })...)
}

// longWay is a way over the greatest map in which no hex is a neighbour of others
// than those before and after it.
var longWay = []int{
	91, 90, 80, 70, 61, 51, 50, 40, 31, 21, 20, 10, 1, 2, 3, 4, 5, 15, 24, 33, 43, 53, 54, 45, 36, 26, 17,
	8, 9, 19, 28, 38, 39, 49, 59, 69, 79, 89, 98, 97, 87, 77, 67, 57, 56, 65, 75, 85, 94, 93, 83, 73, 72,
}

// longTrip returns a trip along longWay, where each of the 52 steps costs 20, as
// much as a step can. All other hexes are closed.
func longTrip() trip {
	b := impl.Board{Rules: costRules(9, 9, 0), Map: plainMap(10, 10)}
	b.Rules.River = 9
	b.Map.Rivers = edgeNumbers(10, 10)
	for i := range b.Map.Terrain {
		if !slices.Contains(longWay, i) {
			b.Map.Terrain[i] = 1
		}
	}
	return trip{board: b, weather: 2, from: 91, to: 72}
}

// Distances may exceed the moves of ReachOf, and ways may have more than MaxPath
// steps.
func TestLongDistances(t *testing.T) {
	x := longTrip()
	distances := slices.Repeat([]int{-1}, 100)
	for n, i := range longWay {
		distances[i] = 20 * n
	}
	list, ok := x.distances()
	wantHexesOf(t, "DistancesFrom", x, list, ok, distances)
	wantFarthest(t, x, 1040, 72)
	path, ok := x.path()
	if !ok || len(path) != 52 || path[0] != 3 || path[51] != 3 {
		t.Errorf("CheapestPath of %v: %v, %v", x, path, ok)
	}
	wantCount(t, x, 1)
	wantDetour(t, x, 1040)
	wantMeeting(t, x, longWay[26])
	for _, moves := range []int{0, 19, 20, 999, 1000} {
		reached := slices.Clone(longWay[:moves/20+1])
		slices.Sort(reached)
		wantReach(t, x, moves, reached...)
	}
	wantTurns(t, x, -1)
	x.board.Map.Rivers, x.weather = nil, 0
	wantTurns(t, x, 52)
}

func TestReachOfMoves(t *testing.T) {
	b := trailBoard(3, meadow, thicket, meadow, meadow, meadow, thicket)
	// The distances from 0 are 0, 8, 9 and 3, 6, 14.
	x := walk(b, 0, 0)
	wantDistances(t, x, 0, 8, 9, 3, 6, 14)
	for moves, want := range [][]int{{0}, {0}, {0}, {0, 3}, {0, 3}, {0, 3}, {0, 3, 4}, {0, 3, 4}, {0, 1, 3, 4}, {0, 1, 2, 3, 4}} {
		wantReach(t, x, moves, want...)
	}
	wantReach(t, x, 13, 0, 1, 2, 3, 4)
	for _, moves := range []int{14, 15, 999, 1000} {
		wantReach(t, x, moves, 0, 1, 2, 3, 4, 5)
	}
	for _, moves := range append([]int{1001, 1002, -2, 1 << 32, -1 << 32}, outside...) {
		list, ok := x.reach(moves)
		wantZero(t, fmt.Sprint("ReachOf ", moves), ok, list)
	}
	// Moves of the kind play no part: raft has none.
	wantReach(t, walk(trailRow(lake, lake), 0, 0).by(raft), 9, 0, 1)
	wantReach(t, walk(trailRow(lake, lake), 0, 0).by(raft), 8, 0)
}

func TestFarthestHexes(t *testing.T) {
	wantFarthest(t, walk(trailRow(meadow, meadow, meadow), 1, 0), 3, 0, 2)
	wantFarthest(t, walk(trailRow(thicket, meadow, thicket), 1, 0).in(1), 9, 0, 2)
	wantFarthest(t, walk(trailRow(meadow, meadow, thicket), 1, 0), 8, 2)
	wantFarthest(t, walk(trailBoard(3, make([]int, 9)...), middle, 0), 6, 0, 8)
	wantFarthest(t, walk(park(), middle, 0), 11, 0, 8)
	wantFarthest(t, walk(trailRow(meadow, cliff, meadow), 0, 0), 0, 0)
	wantFarthest(t, walk(trailRow(meadow, cliff, meadow), 1, 0), 3, 0, 2)
	wantFarthest(t, walk(trailRow(cliff, cliff, cliff), 2, 0), 0, 2)
}

// wantOnlyTheseDistances requires CheckDistances to be true for the distances of
// a trip, and false for a list that differs in one number or in its length.
func wantOnlyTheseDistances(t *testing.T, x trip, want []int) {
	t.Helper()
	wantCheck(t, x, want, true)
	for k, n := range want {
		for _, other := range append([]int{n - 1, n + 1, -n - 1, n + 1<<32, 0, -2}, outside...) {
			if other != n {
				l := slices.Clone(want)
				l[k] = other
				wantCheck(t, x, l, false)
			}
		}
		wantCheck(t, x, want[:k], false)
		wantCheck(t, x, want[k+1:], false)
	}
	for _, more := range []int{-1, 0, want[len(want)-1]} {
		wantCheck(t, x, append(slices.Clone(want), more), false)
	}
	wantCheck(t, x, nil, false)
	wantCheck(t, x, []int{}, false)
	wantCheck(t, x, slices.Concat(want, want), false)
	wantCheck(t, x, slices.Repeat([]int{-1}, len(want)), false)
	wantCheck(t, x, slices.Repeat([]int{math.MaxInt}, len(want)), false)
	wantCheck(t, x, slices.Repeat([]int{math.MinInt}, len(want)), false)
}

func TestCheckedDistances(t *testing.T) {
	wantOnlyTheseDistances(t, exampleTrip(0, 0), []int{0, 2, 4})
	// A hex that is not reached has -1, whether it is open or not.
	wantOnlyTheseDistances(t, walk(trailRow(meadow, meadow, cliff, meadow), 0, 0), []int{0, 3, -1, -1})
	wantOnlyTheseDistances(t, walk(trailRow(meadow, cliff), 1, 0), []int{3, 0})
	wantOnlyTheseDistances(t, walk(trailRow(cliff), 0, 0), []int{0})
	x := walk(trailRow(meadow, meadow, cliff, meadow), 0, 0)
	for _, l := range [][]int{{0, 3, -1, 9}, {0, 3, 6, 9}, {0, 3, -1, 0}, {0, -1, -1, -1}, {-1, -1, -1, -1}, {3, 0, -1, -1}} {
		wantCheck(t, x, l, false)
	}
	// Greater distances for all hexes but i, and those from another hex.
	wantCheck(t, exampleTrip(0, 0), []int{0, 3, 5}, false)
	wantCheck(t, exampleTrip(0, 0), []int{2, 0, 2}, false)
	wantCheck(t, exampleTrip(0, 0), []int{1, 3, 5}, false)
	for _, b := range trails()[:40] {
		x := trip{board: b, from: len(b.Map.Terrain) / 2}
		wantOnlyTheseDistances(t, x, atlasOf(b, 0, 0).apart[x.from])
	}
}

// All distances follow from the costs of the edges.
func TestDistancesBySearch(t *testing.T) {
	random := rand.New(rand.NewSource(10))
	for _, b := range trails() {
		for kind := range b.Rules.Kinds {
			weather := random.Intn(3)
			a := atlasOf(b, kind, weather)
			for range 10 {
				i := random.Intn(len(b.Map.Terrain))
				wantDistances(t, trip{b, kind, weather, i, i}, a.apart[i]...)
			}
		}
	}
}

// Distances are their own proof: no step is a shorter way to its end, and the
// last step of a way to each other hex makes up the difference.
func TestDistancesAreProved(t *testing.T) {
	random := rand.New(rand.NewSource(11))
	reached := 0
	for _, b := range trails() {
		for range 5 {
			x := drawnTrip(random, b)
			l, ok := x.distances()
			if !ok || l[x.from] != 0 {
				t.Fatalf("DistancesFrom of %v: %v, %v", x, l, ok)
			}
			proved := make([]bool, len(l))
			proved[x.from] = true
			for i := range l {
				costs, _ := impl.StepCosts(b, x.kind, x.weather, i)
				for d, cost := range costs {
					k, on := impl.NextTo(b.Map, i, d)
					if !on || cost == 0 || l[i] == -1 {
						continue
					}
					if l[k] < 0 || l[k] > l[i]+cost {
						t.Fatalf("%d has the distance %d and a step of %d to %d, which has %d in %v", i, l[i], cost, k, l[k], x)
					}
					proved[k] = proved[k] || l[k] == l[i]+cost
				}
			}
			for k, n := range l {
				if n < -1 || (n >= 0) != proved[k] {
					t.Fatalf("the distance %d of %d is proved: %v, in %v", n, k, proved[k], x)
				}
				if n > 0 {
					reached++
				}
			}
		}
	}
	if reached < 1000 {
		t.Errorf("only %d hexes are reached", reached)
	}
}
