package tests

import (
	"fmt"
	"math/rand"
	"slices"
	"testing"

	"loop.example/g00886/impl"
)

func TestLongestPath(t *testing.T) {
	if impl.MaxPath != 9 {
		t.Fatal(impl.MaxPath)
	}
	b := trailRow(make([]int, 10)...)
	onward, back := make([]int, 9), slices.Repeat([]int{3}, 9)
	wantHexes(t, b, 0, onward, []int{1, 2, 3, 4, 5, 6, 7, 8, 9}, back)
	wantHexes(t, b, 9, back, []int{8, 7, 6, 5, 4, 3, 2, 1, 0}, onward)
	for weather, want := range []int{27, 36, 45} {
		wantPathCost(t, b, walker, weather, 0, onward, want)
		wantPathCost(t, b, walker, weather, 9, back, want)
		wantLimits(t, b, walker, weather, 0, onward, slices.Repeat([]int{3 + weather}, 9)...)
	}
	// A tenth step is too much, also where it stays on the map.
	for _, path := range [][]int{append(slices.Clone(onward), 3), append(slices.Clone(onward), 0), slices.Repeat([]int{0, 3}, 5), make([]int, 100)} {
		wantNoPath(t, b, 0, path)
	}
	wantHexes(t, b, 0, slices.Repeat([]int{0, 3}, 5)[:9], []int{1, 0, 1, 0, 1, 0, 1, 0, 1}, slices.Repeat([]int{3, 0}, 5)[:9])
}

// wantNoPath requires every function to fail because of a path.
func wantNoPath(t *testing.T, b impl.Board, i int, path []int) {
	t.Helper()
	wantNoHexes(t, b, i, path)
	for kind := range b.Rules.Kinds {
		for weather := range 3 {
			wantPathCost(t, b, kind, weather, i, path, -1)
			for _, moves := range []int{0, 9, 1000} {
				n, ok := impl.StepsWithin(b, kind, weather, i, path, moves)
				wantZero(t, fmt.Sprint("StepsWithin ", moves, " from ", i, " by ", path), ok, n)
			}
		}
	}
}

func TestEmptyPath(t *testing.T) {
	for _, b := range trails()[:40] {
		for _, path := range [][]int{nil, {}, []int{1, 2, 3}[:0]} {
			for i := range b.Map.Terrain {
				wantHexes(t, b, i, path, nil, nil)
				for kind := range b.Rules.Kinds {
					wantPathCost(t, b, kind, 2, i, path, 0)
					wantLimits(t, b, kind, 2, i, path)
				}
			}
		}
	}
}

func TestPathsInThePark(t *testing.T) {
	b := park()
	for _, c := range []struct {
		i                  int
		path, hexes, costs []int
		back               []int
	}{
		{0, []int{0}, []int{1}, []int{8}, []int{3}},
		{0, []int{0, 5}, []int{1, 4}, []int{8, 3}, []int{2, 3}},
		{0, []int{0, 0, 4, 5}, []int{1, 2, 4, 7}, []int{8, 3, 3, 8}, []int{2, 1, 3, 3}},
		{3, []int{5, 0, 1, 3}, []int{6, 7, 5, 4}, []int{3, 8}, []int{0, 4, 3, 2}},
		{8, []int{3, 3, 1, 2}, []int{7, 6, 4, 1}, []int{8, 3, 3, 8}, []int{5, 4, 0, 0}},
	} {
		wantHexes(t, b, c.i, c.path, c.hexes, c.back)
		for weather := range 3 {
			var costs []int
			for _, n := range c.costs {
				costs = append(costs, n+weather)
			}
			want := -1
			if len(costs) == len(c.path) {
				want = total(costs, len(costs))
			}
			wantPathCost(t, b, walker, weather, c.i, c.path, want)
			wantLimits(t, b, walker, weather, c.i, c.path, costs...)
		}
	}
}

// The way crosses a river, follows a road, and goes over a bridge.
func TestPathOverRiversAndRoads(t *testing.T) {
	b := withEdges(trailRow(meadow, thicket, meadow, meadow), []int{0, 6}, []int{3, 6})
	for weather, costs := range [][]int{{12, 5, 5}, {13, 5, 5}, {14, 6, 6}} {
		wantPathCost(t, b, walker, weather, 0, []int{0, 0, 0}, total(costs, 3))
		wantLimits(t, b, walker, weather, 0, []int{0, 0, 0}, costs...)
		// The way back leads into the meadow, not into the thicket.
		back := []int{costs[2], costs[1], costs[0] - 5}
		wantPathCost(t, b, walker, weather, 3, []int{3, 3, 3}, total(back, 3))
		wantLimits(t, b, walker, weather, 3, []int{3, 3, 3}, back...)
	}
}

// A path may come back to its hex, and go on.
func TestPathsThatComeBack(t *testing.T) {
	b := trailBoard(3, make([]int, 9)...)
	for d, k := range aroundMiddle {
		to := (d + 3) % 6
		wantHexes(t, b, middle, []int{d, to}, []int{k, middle}, []int{d, to})
		wantPathCost(t, b, cart, 1, middle, []int{d, to}, 6)
		triangle := []int{d, (d + 2) % 6, (d + 4) % 6}
		wantHexes(t, b, middle, triangle, []int{k, aroundMiddle[(d+1)%6], middle}, []int{(d + 1) % 6, (d + 5) % 6, to})
		wantPathCost(t, b, cart, 2, middle, triangle, 12)
	}
	round := []int{0, 5, 3, 2}
	wantHexes(t, b, 0, round, []int{1, 4, 3, 0}, []int{5, 0, 2, 3})
	wantLimits(t, b, walker, 0, 0, append(round, round...), 3, 3, 3, 3, 3, 3, 3, 3)
	wantHexes(t, b, 0, append(round, round...), []int{1, 4, 3, 0, 1, 4, 3, 0}, []int{5, 0, 2, 3, 5, 0, 2, 3})
}

// A path that leaves the map fails, but StepsWithin counts the steps before.
func TestPathsThatLeaveTheMap(t *testing.T) {
	b := trailRow(make([]int, 10)...)
	for _, c := range []struct {
		i     int
		path  []int
		steps int
	}{
		{0, []int{3}, 0}, {0, []int{1}, 0}, {0, []int{2}, 0}, {0, []int{4}, 0}, {0, []int{5}, 0}, {9, []int{0}, 0},
		{0, []int{3, 0}, 0}, {0, []int{3, 0, 0, 0}, 0}, {5, []int{2, 5, 0}, 0}, {5, []int{1, 4}, 0},
		{0, []int{0, 3, 3}, 2}, {0, []int{0, 3, 3, 0}, 2}, {8, []int{0, 0}, 1}, {8, []int{0, 0, 3, 3}, 1},
		{1, []int{0, 0, 0, 0, 0, 0, 0, 0, 0}, 8}, {8, []int{3, 3, 3, 3, 3, 3, 3, 3, 3}, 8}, {4, []int{0, 0, 0, 0, 5}, 4},
	} {
		wantNoHexes(t, b, c.i, c.path)
		for weather := range 3 {
			wantPathCost(t, b, walker, weather, c.i, c.path, -1)
			wantLimits(t, b, walker, weather, c.i, c.path, slices.Repeat([]int{3 + weather}, c.steps)...)
		}
	}
	for d := range steps {
		wantNoHexes(t, trailRow(meadow), 0, []int{d})
		wantPathCost(t, trailRow(meadow), walker, 0, 0, []int{d}, -1)
		wantLimits(t, trailRow(meadow), walker, 0, 0, []int{d})
	}
}

// A hex that is closed for the kind ends what StepsWithin counts and makes
// PathCost fail, but PathHexes has all hexes.
func TestPathsOverClosedHexes(t *testing.T) {
	for closed := range 6 {
		terrain := make([]int, 6)
		for _, terrain[closed] = range []int{lake, cliff} {
			for _, roads := range [][]int{nil, {0, 3, 6, 9, 12}} {
				b := withEdges(trailRow(terrain...), nil, roads)
				cost := 3
				if roads != nil {
					cost = 5
				}
				wantHexes(t, b, 0, make([]int, 5), []int{1, 2, 3, 4, 5}, slices.Repeat([]int{3}, 5))
				want, counted := -1, closed-1
				if closed == 0 {
					want, counted = 5*cost, 5
				}
				wantPathCost(t, b, walker, 0, 0, make([]int, 5), want)
				wantLimits(t, b, walker, 0, 0, make([]int, 5), slices.Repeat([]int{cost}, counted)...)
			}
		}
	}
	// A step without cost takes no part, however cheap the ones after it are.
	b := trailRow(meadow, thicket, meadow, meadow)
	for moves := range 20 {
		wantWithin(t, b, cart, 0, 0, []int{0, 0, 0}, moves, 0)
	}
	wantWithin(t, b, cart, 0, 2, []int{0, 3, 3, 0}, 1000, 2)
	wantHexes(t, b, 2, []int{0, 3, 3, 0}, []int{3, 2, 1, 2}, []int{3, 0, 0, 3})
}

// A dear step that is beyond the moves ends the count, although those after it
// would be cheap.
func TestStepsWithinMoves(t *testing.T) {
	b := trailRow(meadow, meadow, thicket, meadow, meadow)
	for moves, want := range []int{0, 0, 0, 1, 1, 1, 1, 1, 1, 1, 1, 2, 2, 2, 3, 3, 3, 4, 4} {
		wantWithin(t, b, walker, 0, 0, []int{0, 0, 0, 0}, moves, want)
	}
	wantWithin(t, b, walker, 0, 0, []int{0, 0, 0, 0}, 999, 4)
	wantWithin(t, b, walker, 0, 0, []int{0, 0, 0, 0}, 1000, 4)
	// Moves of the kind play no part: raft has none.
	wantWithin(t, trailRow(lake, lake), raft, 0, 0, []int{0, 3, 0}, 26, 2)
	wantWithin(t, trailRow(lake, lake), raft, 0, 0, []int{0, 3, 0}, 27, 3)
	for _, moves := range append([]int{1001, 1002, -2, 1 << 32, -1 << 32}, outside...) {
		for _, path := range [][]int{nil, {0}, {0, 0, 0, 0}, {3}} {
			n, ok := impl.StepsWithin(b, walker, 0, 0, path, moves)
			wantZero(t, fmt.Sprint("StepsWithin ", moves, " by ", path), ok, n)
		}
	}
}

// A number that is no direction makes a path invalid wherever it stands, also
// behind a step that does not exist.
func TestPathsWithoutDirections(t *testing.T) {
	b := trailRow(make([]int, 10)...)
	for _, d := range append([]int{6, 7, -2, -6, 256, 1 << 32, -1 << 32}, outside...) {
		for n := range impl.MaxPath {
			path := make([]int, impl.MaxPath)
			path[n] = d
			wantNoPath(t, b, 0, path)
			wantNoPath(t, b, 0, path[:n+1])
		}
		wantNoPath(t, b, 0, []int{3, d})
		wantNoPath(t, b, 9, []int{0, 0, d})
		wantNoPath(t, trailRow(meadow, cliff), 0, []int{0, d})
	}
}

// wantWay requires the results of all functions for a path, whether it stays on
// the map or not.
func wantWay(t *testing.T, b impl.Board, kind, weather int, costs [][]int, i int, path []int) {
	t.Helper()
	hexes, paid := wayBySearch(b, costs, i, path)
	if len(hexes) < len(path) {
		wantNoHexes(t, b, i, path)
	} else {
		var back []int
		for _, d := range path {
			back = append([]int{[]int{3, 4, 5, 0, 1, 2}[d]}, back...)
		}
		wantHexes(t, b, i, path, hexes, back)
	}
	want := -1
	if len(paid) == len(path) {
		want = total(paid, len(paid))
	}
	wantPathCost(t, b, kind, weather, i, path, want)
	wantLimits(t, b, kind, weather, i, path, paid...)
}

// All paths of at most three steps on a small board with everything.
func TestAllShortPaths(t *testing.T) {
	b := withEdges(park(), []int{0, 13, 19, 22}, []int{3, 10, 13, 23})
	for length := range 4 {
		for _, path := range patterns(length, 6) {
			for i := range b.Map.Terrain {
				kind, weather := (i+length)%3, (i+total(path, length))%3
				wantWay(t, b, kind, weather, costsBySearch(b, kind, weather), i, path)
			}
		}
	}
}

func TestDrawnPaths(t *testing.T) {
	random := rand.New(rand.NewSource(99))
	counts := map[bool]int{}
	for _, b := range trails() {
		for kind := range b.Rules.Kinds {
			weather := random.Intn(3)
			costs := costsBySearch(b, kind, weather)
			for range 10 {
				i := random.Intn(len(b.Map.Terrain))
				wantWay(t, b, kind, weather, costs, i, drawnPath(random))
				way := drawnWay(random, b, i)
				wantWay(t, b, kind, weather, costs, i, way)
				_, paid := wayBySearch(b, costs, i, way)
				counts[len(paid) == len(way)]++
			}
		}
	}
	if counts[true] < 500 || counts[false] < 500 {
		t.Errorf("paths have costs: %v", counts)
	}
}

// The cost of a path is that of its first steps and that of the others, and the
// sum of StepCost over its hexes.
func TestCostsAddUp(t *testing.T) {
	random := rand.New(rand.NewSource(90))
	added := 0
	for _, b := range trails() {
		for kind := range b.Rules.Kinds {
			weather, i := random.Intn(3), random.Intn(len(b.Map.Terrain))
			path := drawnWay(random, b, i)
			whole, ok := impl.PathCost(b, kind, weather, i, path)
			if !ok {
				continue
			}
			hexes, _ := impl.PathHexes(b, i, path)
			stops := append([]int{i}, hexes...)
			sum := 0
			for n, d := range path {
				first, ok := impl.PathCost(b, kind, weather, i, path[:n])
				rest, ok2 := impl.PathCost(b, kind, weather, stops[n], path[n:])
				if !ok || !ok2 || first != sum || first+rest != whole {
					t.Fatalf("%v from %d on %v costs %d, its parts before and after step %d cost %d and %d, the steps before it %d", path, i, b, whole, n, first, rest, sum)
				}
				cost, _ := impl.StepCost(b, kind, weather, stops[n], d)
				sum += cost
				added++
			}
			if sum != whole {
				t.Fatalf("%v from %d on %v costs %d, its steps cost %d", path, i, b, whole, sum)
			}
		}
	}
	if added < 300 {
		t.Errorf("only %d steps have been added", added)
	}
}

// A path that is reversed twice is the path, and its hexes are the same.
func TestPathsReversedTwice(t *testing.T) {
	random := rand.New(rand.NewSource(91))
	for _, b := range trails() {
		for range 30 {
			i := random.Intn(len(b.Map.Terrain))
			path := drawnWay(random, b, i)
			end, back, ok := impl.ReversePath(b, i, path)
			if _, on := impl.PathHexes(b, i, path); on != ok {
				t.Fatalf("%v from %d on %v: ReversePath %v, PathHexes %v", path, i, b.Map, ok, on)
			}
			if !ok {
				continue
			}
			first, again, ok := impl.ReversePath(b, end, back)
			if !ok || first != i || !slices.Equal(again, path) {
				t.Fatalf("%v from %d on %v is reversed to %v from %d and to %v from %d", path, i, b.Map, back, end, again, first)
			}
			forth, _ := impl.PathHexes(b, i, path)
			homeward, _ := impl.PathHexes(b, end, back)
			slices.Reverse(homeward)
			if !slices.Equal(append([]int{i}, forth...), append(homeward, end)) {
				t.Fatalf("%v from %d on %v has the hexes %v, and %v on its way back", path, i, b.Map, forth, homeward)
			}
		}
	}
}
