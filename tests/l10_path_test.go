package tests

import (
	"math/rand"
	"slices"
	"testing"

	"loop.example/g00886/impl"
)

// square returns a board of two rows of two hexes. From 0 to 3, there are the
// ways 0, 5 over the hex 1 and 5, 0 over the hex 2, which are neighbours.
func square(terrain ...int) impl.Board {
	return trailBoard(2, terrain...)
}

func TestCheapestPaths(t *testing.T) {
	wantCheapestPath(t, walk(trailRow(meadow, thicket, meadow), 0, 2), 1, 0, 0)
	wantCheapestPath(t, walk(trailRow(meadow, thicket, meadow), 2, 0), 1, 3, 3)
	wantCheapestPath(t, walk(square(meadow, meadow, thicket, thicket), 0, 3), 1, 0, 5)
	wantCheapestPath(t, walk(square(meadow, thicket, meadow, thicket), 0, 3), 1, 5, 0)
	wantCheapestPath(t, walk(square(meadow, cliff, meadow, thicket), 0, 3), 1, 5, 0)
	wantCheapestPath(t, walk(square(meadow, meadow, cliff, meadow), 3, 0), 1, 2, 3)
	// The way around the thicket is longer, but cheaper.
	b := trailBoard(3, meadow, thicket, meadow, meadow, meadow, thicket)
	wantCheapestPath(t, walk(b, 0, 2), 1, 5, 0, 1)
	wantCheapestPath(t, walk(b, 2, 0), 1, 4, 3, 2)
	// A river on its last step makes both ways dear, so that the shorter one is
	// left.
	wantCheapestPath(t, walk(withEdges(b, []int{13}, nil), 0, 2), 1, 0, 0)
	wantNoWay(t, walk(trailRow(meadow, cliff, meadow), 0, 2))
	wantNoWay(t, walk(trailRow(meadow, meadow, cliff), 0, 2))
	wantNoWay(t, walk(trailRow(lake, lake), 0, 1))
}

// Among several cheapest paths, the first one is in the order of its directions,
// not of its length or of the costs of its steps.
func TestFirstOfCheapestPaths(t *testing.T) {
	wantCheapestPath(t, walk(square(meadow, meadow, meadow, meadow), 0, 3), 2, 0, 5)
	wantCheapestPath(t, walk(square(meadow, meadow, meadow, meadow), 3, 0), 2, 2, 3)
	wantCheapestPath(t, walk(square(meadow, thicket, thicket, meadow), 0, 3), 2, 0, 5)
	// From 2 to 1 there is a road that costs as much as two meadows: one step in
	// direction 1, or those in the directions 0, 2 or 2, 0.
	b := withEdges(square(meadow, meadow, meadow, meadow), nil, []int{7})
	b.Rules.Road = 6
	wantCheapestPath(t, walk(b, 2, 1), 3, 0, 2)
	wantCheapestPath(t, walk(b, 1, 2), 3, 3, 5)
	b.Rules.Road = 5
	wantCheapestPath(t, walk(b, 2, 1), 1, 1)
	b.Rules.Road = 7
	wantCheapestPath(t, walk(b, 2, 1), 2, 0, 2)
	b.Rules.Road = 6
	b.Map.Terrain[3] = cliff
	wantCheapestPath(t, walk(b, 2, 1), 2, 1)
	wantCheapestPath(t, walk(b, 1, 2), 2, 3, 5)
	// On a plain, all steps in direction 0 come before those in direction 5.
	plain := trailBoard(4, make([]int, 16)...)
	wantCheapestPath(t, walk(plain, 0, 15), 20, 0, 0, 0, 5, 5, 5)
	wantCheapestPath(t, walk(plain, 15, 0), 20, 2, 2, 2, 3, 3, 3)
	wantCheapestPath(t, walk(plain, 12, 3), 1, 1, 1, 1)
	wantCheapestPath(t, walk(plain, 12, 7), 3, 0, 1, 1)
	wantCheapestPath(t, walk(plain, 3, 8), 3, 3, 4, 4)
}

// The cheapest first step, and the first one of the directions, lead to a river.
func TestCheapFirstStepsThatMislead(t *testing.T) {
	b := withEdges(square(meadow, meadow, thicket, meadow), []int{11}, nil)
	b.Rules.River = 9
	if d, ok := impl.CheapestStep(b, walker, 0, 0); !ok || d != 0 {
		t.Fatal(d, ok)
	}
	wantDistances(t, walk(b, 0, 0), 0, 3, 8, 11)
	wantCheapestPath(t, walk(b, 0, 3), 1, 5, 0)
	// The step in direction 0 leads to the end of a row, from which no step leads
	// on but the one back.
	b = trailBoard(3, meadow, meadow, cliff, thicket, cliff, cliff, thicket, meadow, meadow)
	wantCheapestPath(t, walk(b, 0, 8), 1, 5, 5, 0, 0)
	wantCheapestPath(t, walk(b, 1, 8), 1, 4, 5, 0, 0)
	// Both first steps cost the same, but only one of them leads to each end.
	b = trailBoard(3, meadow, meadow, meadow, meadow, thicket, thicket, meadow, meadow, thicket)
	wantCheapestPath(t, walk(b, 0, 2), 1, 0, 0)
	wantCheapestPath(t, walk(b, 0, 7), 1, 5, 5, 0)
}

// The costs of the steps of a cheapest path are the distance, and with one step
// more or another first step nothing is cheaper.
func TestCheapestPathsCostTheDistance(t *testing.T) {
	random := rand.New(rand.NewSource(12))
	steps := 0
	for _, b := range trails() {
		for range 20 {
			x := drawnTrip(random, b)
			l, _ := x.distances()
			path, ok := x.path()
			if ok != (l[x.to] >= 0) {
				t.Fatalf("CheapestPath of %v: %v, but the distance is %d", x, ok, l[x.to])
			}
			at, cost := x.from, 0
			for _, d := range path {
				n, _ := impl.StepCost(b, x.kind, x.weather, at, d)
				cost += n
				at, _ = impl.NextTo(b.Map, at, d)
				if n == 0 || cost != l[at] {
					t.Fatalf("%v of %v costs %d up to %d, whose distance is %d", path, x, cost, at, l[at])
				}
				steps++
			}
			if ok && at != x.to {
				t.Fatalf("%v of %v ends in %d", path, x, at)
			}
			if n, has := impl.PathCost(b, x.kind, x.weather, x.from, path); ok && len(path) <= impl.MaxPath && (!has || n != l[x.to]) {
				t.Fatalf("PathCost of %v of %v: %d, %v, want %d", path, x, n, has, l[x.to])
			}
		}
	}
	if steps < 1000 {
		t.Errorf("the paths have %d steps", steps)
	}
}

// cheapestOfAll tries all paths of less steps than there are hexes, since a
// cheapest one comes to no hex twice. It returns the cheapest ones from i to
// each hex in lexicographic order.
func cheapestOfAll(b impl.Board, kind, weather, i int) [][][]int {
	costs := costsBySearch(b, kind, weather)
	cheapest := make([][][]int, len(costs))
	least := make([]int, len(costs))
	for length := range len(costs) {
		for _, path := range patterns(length, 6) {
			hexes, paid := wayBySearch(b, costs, i, path)
			if len(paid) < length {
				continue
			}
			end, cost := append([]int{i}, hexes...)[length], total(paid, length)
			if cheapest[end] == nil || cost < least[end] {
				cheapest[end], least[end] = nil, cost
			}
			if cost == least[end] {
				cheapest[end] = append(cheapest[end], path)
			}
		}
	}
	for _, list := range cheapest {
		slices.SortFunc(list, slices.Compare)
	}
	return cheapest
}

// On small boards with all patterns of terrain, and with rivers and roads, the
// results are those of trying all paths.
func TestAllPathsOfSmallBoards(t *testing.T) {
	random := rand.New(rand.NewSource(13))
	for _, m := range slices.Concat(patternMaps(2, 2, 4), patternMaps(4, 1, 4), patternMaps(1, 3, 4)) {
		b := impl.Board{Rules: trailRules(), Map: m}
		b.Rules.Road = 1 + random.Intn(6)
		edges := edgeNumbers(m.Width, m.Height)
		b = withEdges(b, edges[:random.Intn(len(edges)+1)], edges[random.Intn(len(edges)+1):])
		kind, weather, i := random.Intn(3), random.Intn(3), random.Intn(len(m.Terrain))
		distances := slices.Repeat([]int{-1}, len(m.Terrain))
		for k, list := range cheapestOfAll(b, kind, weather, i) {
			x := trip{b, kind, weather, i, k}
			if len(list) == 0 {
				wantNoWay(t, x)
				continue
			}
			wantCheapestPath(t, x, len(list), list[0]...)
			cost, _ := impl.PathCost(b, kind, weather, i, list[0])
			distances[k] = cost
			wantDetour(t, x, cost)
		}
		wantDistances(t, trip{b, kind, weather, i, i}, distances...)
	}
}

// All results follow from the distances between all pairs of hexes.
func TestTripsBySearch(t *testing.T) {
	random := rand.New(rand.NewSource(14))
	turns := map[int]int{}
	for _, b := range journeys() {
		for kind := range b.Rules.Kinds {
			weather := random.Intn(3)
			a := atlasOf(b, kind, weather)
			for range 25 {
				x := drawnTrip(random, b)
				x.kind, x.weather = kind, weather
				wantTrip(t, a, x)
				n, _ := x.turns()
				turns[min(n, 4)]++
			}
		}
	}
	for n := range 5 {
		if turns[n] < 50 {
			t.Errorf("trips have turns: %v", turns)
		}
	}
}

func TestCountsOnAPlain(t *testing.T) {
	b := impl.Board{Rules: costRules(9, 1, 0), Map: plainMap(10, 10)}
	for weather := range 3 {
		wantCount(t, trip{board: b, weather: weather, from: 0, to: 99}, 48620)
		wantCount(t, trip{board: b, weather: weather, from: 99, to: 0}, 48620)
		wantCount(t, trip{board: b, weather: weather, from: 90, to: 9}, 1)
		wantCount(t, trip{board: b, weather: weather, from: 0, to: 9}, 1)
		wantCount(t, trip{board: b, weather: weather, from: 0, to: 59}, 2002)
	}
	for k, want := range atlasOf(b, 0, 0).countsBySearch(99) {
		wantCount(t, trip{board: b, from: k, to: 99}, want)
	}
	// Without the hexes of a diagonal but one, all paths lead through this one.
	for q := range 10 {
		b.Map.Terrain[9*q+9] = 1
	}
	wantCount(t, trip{board: b, to: 99}, -1)
	b.Map.Terrain[9*4+9] = 0
	wantCount(t, trip{board: b, to: 99}, 126*126)
}

// gorge returns a board on which a road costs as much as the other two steps
// around a corner, so that there are many cheapest paths from the hex 9 to the
// hex 40 and from there on to the hex 99: all of them lead through the hex 40,
// and the number of those from 9 to 99 is a product. The rivers are never
// crossed.
//
// Other rows than the one of the hex 40 are open, all edges in direction 0 have
// roads, and the rivers were found by trying.
func gorge(upper, lower []int) impl.Board {
	b := impl.Board{Rules: costRules(9, 1, 0), Map: plainMap(10, 10)}
	b.Rules.Road, b.Rules.River = 2, 9
	var roads []int
	for _, e := range edgesBySearch(10, 10) {
		if e.number%3 == 0 {
			roads = append(roads, e.number)
		}
	}
	for i := 41; i < 50; i++ {
		b.Map.Terrain[i] = 1
	}
	return withEdges(b, slices.Concat(upper, lower), roads)
}

// There are as many cheapest paths as may be counted, one less and one more, and
// several times as many.
func TestCountsAroundTheLimit(t *testing.T) {
	for _, c := range []struct {
		upper, lower     []int
		first, rest, all int
	}{
		{[]int{55, 73}, []int{223, 250, 263}, 500, 2000000, 1000000000},
		{[]int{71, 82, 97}, []int{212, 226, 230, 254, 292}, 999, 1001001, 999999999},
		{[]int{70, 79, 101}, []int{209, 224, 248, 260, 266}, 1001, 999001, 1000000001},
		{nil, nil, 3353, 4197792, 14075196576},
	} {
		b := gorge(c.upper, c.lower)
		a := atlasOf(b, 0, 0)
		if counts := a.countsBySearch(99); counts[9] != c.all || counts[40] != c.rest {
			t.Fatalf("there are %d paths, of which %d begin in the hex 40, want %d and %d", counts[9], counts[40], c.all, c.rest)
		}
		for _, ends := range [][3]int{{9, 40, c.first}, {40, 99, c.rest}, {9, 99, c.all}} {
			x := trip{board: b, from: ends[0], to: ends[1]}
			want := ends[2]
			if want > 1000000000 {
				want = -1
			}
			wantCount(t, x, want)
			wantCount(t, x.back(), want)
			path, ok := x.path()
			wantHexesOf(t, "CheapestPath", x, path, ok, a.pathBySearch(x.from, x.to))
		}
	}
}
