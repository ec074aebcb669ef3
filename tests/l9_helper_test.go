package tests

import (
	"fmt"
	"math/rand"
	"slices"
	"testing"

	"loop.example/g00886/impl"
)

// The kinds and terrains of trailRules: walker enters the meadow and the
// thicket, cart the meadow alone, raft the lake alone, statue nothing, and
// nobody the cliff.
const (
	walker = iota
	cart
	raft
	statue
)

const (
	meadow = iota
	thicket
	lake
	cliff
)

// trailRules returns rules in which a road costs more than the meadow: it counts
// all the same.
func trailRules() impl.Rules {
	return impl.Rules{
		Terrains: []impl.Terrain{
			{Name: "meadow", Cost: []int{3, 2, 0, 0}}, {Name: "thicket", Cost: []int{8, 0, 0, 0}},
			{Name: "lake", Cost: []int{0, 0, 9, 0}}, {Name: "cliff", Cost: []int{0, 0, 0, 0}},
		},
		Kinds: []impl.Kind{
			{Name: "walker", Strength: 3, Moves: 4, Steps: 2, View: 1}, {Name: "cart", Strength: 1, Moves: 6, Steps: 1},
			{Name: "raft", Strength: 2, Moves: 0, Steps: 1}, {Name: "statue", Strength: 9, Moves: 9, Steps: 1},
		},
		Stack: 2, River: 4, Road: 5, Supply: 5, Turns: 10,
	}
}

func trailBoard(width int, terrain ...int) impl.Board {
	m := impl.Map{Width: width, Height: len(terrain) / width, Terrain: terrain}
	return impl.Board{Rules: trailRules(), Map: m}
}

// trailRow returns a row of hexes with the given terrains.
func trailRow(terrain ...int) impl.Board {
	return trailBoard(len(terrain), terrain...)
}

// park returns a board with all terrains, also around its middle.
//
//	0 meadow  1 thicket  2 meadow
//	3 lake    4 meadow   5 cliff
//	6 meadow  7 thicket  8 meadow
func park() impl.Board {
	return trailBoard(3, meadow, thicket, meadow, lake, meadow, cliff, meadow, thicket, meadow)
}

// withEdges returns a board with other rivers and roads.
func withEdges(b impl.Board, rivers, roads []int) impl.Board {
	b.Map.Rivers, b.Map.Roads = slices.Clone(rivers), slices.Clone(roads)
	slices.Sort(b.Map.Rivers)
	slices.Sort(b.Map.Roads)
	return b
}

// What the document says that the weathers 0, 1 and 2 cost.
var (
	costsOffRoads = [3]int{0, 1, 2}
	costsOnRoads  = [3]int{0, 0, 1}
)

// trails returns the boards of the examples and drawn ones.
func trails() []impl.Board {
	list := []impl.Board{
		exampleBoard(), campBoard(), park(), plainFront(), riverBoard(1), bridgeBoard(4), roadBoard(5),
		trailRow(meadow), trailRow(cliff), {Rules: fullRules(), Map: variedMap(10, 10)}, {Rules: fullRules(), Map: variedMap(1, 10)},
	}
	random := rand.New(rand.NewSource(9))
	for range 120 {
		b := drawnFront(random)
		b.Rules.River, b.Rules.Road = random.Intn(10), 1+random.Intn(9)
		list = append(list, b)
	}
	return list
}

// costsBySearch reads the contract of StepCost word by word, for all hexes and
// directions, with 0 where there is no cost. It goes from edge to edge, not from
// hex to hex.
func costsBySearch(b impl.Board, kind, weather int) [][]int {
	costs := make([][]int, len(b.Map.Terrain))
	for i := range costs {
		costs[i] = make([]int, 6)
	}
	for _, e := range edgesBySearch(b.Map.Width, b.Map.Height) {
		costs[e.from][e.number%3] = costBySearch(b, kind, weather, e.number, e.to)
		costs[e.to][e.number%3+3] = costBySearch(b, kind, weather, e.number, e.from)
	}
	return costs
}

func costBySearch(b impl.Board, kind, weather, edge, to int) int {
	switch enter := costAt(b, kind, to); {
	case enter == 0:
		return 0
	case slices.Contains(b.Map.Roads, edge):
		return b.Rules.Road + costsOnRoads[weather]
	case slices.Contains(b.Map.Rivers, edge):
		return enter + b.Rules.River + costsOffRoads[weather]
	default:
		return enter + costsOffRoads[weather]
	}
}

// wayBySearch returns the hexes of a path until it leaves the map, and the costs
// of its steps until one has none.
func wayBySearch(b impl.Board, costs [][]int, i int, path []int) ([]int, []int) {
	var hexes, paid []int
	for n, d := range path {
		if cost := costs[i][d]; cost > 0 && len(paid) == n {
			paid = append(paid, cost)
		}
		i = nextBySearch(b, i, d)
		if i < 0 {
			break
		}
		hexes = append(hexes, i)
	}
	return hexes, paid
}

// total returns the sum of the first n numbers of a list.
func total(list []int, n int) int {
	sum := 0
	for _, x := range list[:n] {
		sum += x
	}
	return sum
}

// drawnPath returns a path of any length.
func drawnPath(random *rand.Rand) []int {
	var path []int
	for range random.Intn(impl.MaxPath + 1) {
		path = append(path, random.Intn(6))
	}
	return path
}

// drawnWay returns a path that keeps to the map wherever a hex has a neighbour.
func drawnWay(random *rand.Rand, b impl.Board, i int) []int {
	path := drawnPath(random)
	for n, d := range path {
		for k := range 6 {
			if next := nextBySearch(b, i, (d+k)%6); next >= 0 {
				path[n], i = (d+k)%6, next
				break
			}
		}
	}
	return path
}

// wantCost requires the cost of a step, or no cost if it is 0.
func wantCost(t *testing.T, b impl.Board, kind, weather, i, d, want int) {
	t.Helper()
	n, ok := impl.StepCost(b, kind, weather, i, d)
	if n != want || ok != (want > 0) {
		t.Errorf("StepCost of kind %d in weather %d from %d in direction %d on %v: %d, %v, want %d", kind, weather, i, d, b, n, ok, want)
	}
}

// wantCosts requires the result of StepCosts, also of StepCost.
func wantCosts(t *testing.T, b impl.Board, kind, weather, i int, want ...int) {
	t.Helper()
	if list, ok := impl.StepCosts(b, kind, weather, i); !ok || !slices.Equal(list, want) {
		t.Errorf("StepCosts of kind %d in weather %d from %d on %v: %v, %v, want %v", kind, weather, i, b, list, ok, want)
	}
	for d, cost := range want {
		wantCost(t, b, kind, weather, i, d, cost)
	}
}

// wantCheapest requires a direction, or a failure if it is -1.
func wantCheapest(t *testing.T, b impl.Board, kind, weather, i, want int) {
	t.Helper()
	d, ok := impl.CheapestStep(b, kind, weather, i)
	if ok != (want >= 0) || d != max(want, 0) {
		t.Errorf("CheapestStep of kind %d in weather %d from %d on %v: %d, %v, want %d", kind, weather, i, b, d, ok, want)
	}
}

func wantCostliest(t *testing.T, b impl.Board, kind, weather, want int) {
	t.Helper()
	if n, ok := impl.CostliestStep(b, kind, weather); !ok || n != want {
		t.Errorf("CostliestStep of kind %d in weather %d on %v: %d, %v, want %d", kind, weather, b, n, ok, want)
	}
}

// wantHexes requires the hexes of a path, and that ReversePath leads from the
// last of them back to the first one by these directions.
func wantHexes(t *testing.T, b impl.Board, i int, path, want, back []int) {
	t.Helper()
	what := fmt.Sprint(" from ", i, " by ", path, " on ", b.Map)
	list, ok := impl.PathHexes(b, i, path)
	wantList(t, "PathHexes"+what, list, ok, want)
	end, list, ok := impl.ReversePath(b, i, path)
	wantNumber(t, "the end of ReversePath"+what, end, ok, append([]int{i}, want...)[len(path)])
	wantList(t, "ReversePath"+what, list, ok, back)
}

func wantNoHexes(t *testing.T, b impl.Board, i int, path []int) {
	t.Helper()
	what := fmt.Sprint(" from ", i, " by ", path)
	list, ok := impl.PathHexes(b, i, path)
	wantZero(t, "PathHexes"+what, ok, list)
	end, list, ok := impl.ReversePath(b, i, path)
	wantZero(t, "ReversePath"+what, ok, end, list)
}

// wantPathCost requires the cost of a path, or a failure if it is -1.
func wantPathCost(t *testing.T, b impl.Board, kind, weather, i int, path []int, want int) {
	t.Helper()
	n, ok := impl.PathCost(b, kind, weather, i, path)
	if ok != (want >= 0) || n != max(want, 0) {
		t.Errorf("PathCost of kind %d in weather %d from %d by %v on %v: %d, %v, want %d", kind, weather, i, path, b, n, ok, want)
	}
}

func wantWithin(t *testing.T, b impl.Board, kind, weather, i int, path []int, moves, want int) {
	t.Helper()
	if n, ok := impl.StepsWithin(b, kind, weather, i, path, moves); !ok || n != want {
		t.Errorf("StepsWithin %d moves of kind %d in weather %d from %d by %v on %v: %d, %v, want %d", moves, kind, weather, i, path, b, n, ok, want)
	}
}

// wantLimits requires StepsWithin to count the steps with the given costs: each
// one if the moves are just enough, but not if there is one too few.
func wantLimits(t *testing.T, b impl.Board, kind, weather, i int, path []int, costs ...int) {
	t.Helper()
	for n := range len(costs) + 1 {
		wantWithin(t, b, kind, weather, i, path, total(costs, n), n)
		if n > 0 {
			wantWithin(t, b, kind, weather, i, path, total(costs, n)-1, n-1)
		}
	}
	wantWithin(t, b, kind, weather, i, path, 1000, len(costs))
}
