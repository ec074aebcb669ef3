package tests

import (
	"fmt"
	"math/rand"
	"slices"
	"testing"

	"loop.example/g00886/impl"
)

// noWeathers are numbers below and above every weather.
var noWeathers = append([]int{3, 4, 256, -2, 1 << 32, -1 << 32}, outside...)

// somePaths are paths that lead from somewhere to somewhere, and lists that are
// no paths.
func somePaths() [][]int {
	return [][]int{nil, {0}, {3}, {0, 3}, {5, 0, 1, 2, 3, 4}, make([]int, 9), make([]int, 10), {6}, {0, -1}}
}

// wantWalkFails requires every function with a board, a hex and a path, but
// without a kind, to fail.
func wantWalkFails(t *testing.T, what string, b impl.Board, i int) {
	t.Helper()
	for _, path := range somePaths() {
		list, ok := impl.PathHexes(b, i, path)
		wantZero(t, fmt.Sprint("PathHexes ", i, path, what), ok, list)
		end, list, ok := impl.ReversePath(b, i, path)
		wantZero(t, fmt.Sprint("ReversePath ", i, path, what), ok, end, list)
	}
}

// wantStepsFail requires every function with a board, a kind, a weather and a
// hex to fail.
func wantStepsFail(t *testing.T, what string, b impl.Board, kind, weather, i int) {
	t.Helper()
	what = fmt.Sprint(" of ", kind, " in ", weather, " from ", i, what)
	for d := -1; d <= 6; d++ {
		n, ok := impl.StepCost(b, kind, weather, i, d)
		wantZero(t, fmt.Sprint("StepCost ", d, what), ok, n)
	}
	list, ok := impl.StepCosts(b, kind, weather, i)
	wantZero(t, "StepCosts"+what, ok, list)
	d, ok := impl.CheapestStep(b, kind, weather, i)
	wantZero(t, "CheapestStep"+what, ok, d)
	for _, path := range somePaths() {
		n, ok := impl.PathCost(b, kind, weather, i, path)
		wantZero(t, fmt.Sprint("PathCost ", path, what), ok, n)
		for _, moves := range []int{-1, 0, 1000, 1001} {
			n, ok := impl.StepsWithin(b, kind, weather, i, path, moves)
			wantZero(t, fmt.Sprint("StepsWithin ", path, moves, what), ok, n)
		}
	}
}

// wantMovesFail requires every function with a board, a kind and a weather to
// fail, whatever the hex is.
func wantMovesFail(t *testing.T, what string, b impl.Board, kind, weather int) {
	t.Helper()
	for _, i := range []int{-1, 0, 1, len(b.Map.Terrain) - 1} {
		wantStepsFail(t, what, b, kind, weather, i)
	}
	n, ok := impl.CostliestStep(b, kind, weather)
	wantZero(t, fmt.Sprint("CostliestStep of ", kind, " in ", weather, what), ok, n)
}

func TestInvalidWeathersCostNothing(t *testing.T) {
	for _, weather := range noWeathers {
		for _, road := range []bool{false, true} {
			n, ok := impl.WeatherCost(weather, road)
			wantZero(t, fmt.Sprint("WeatherCost ", weather, road), ok, n)
		}
	}
}

func TestCostsOnInvalidBoards(t *testing.T) {
	for _, b := range invalidBoards() {
		what := fmt.Sprint(" on ", b)
		for i := -1; i <= 3; i++ {
			wantWalkFails(t, what, b, i)
		}
		for _, kind := range []int{-1, 0, 3} {
			wantMovesFail(t, what, b, kind, 0)
		}
		wantMovesFail(t, what, b, 0, 2)
	}
}

func TestInvalidKindsOfMovers(t *testing.T) {
	for _, b := range trails()[:30] {
		for _, kind := range append([]int{len(b.Rules.Kinds), 4, 5, -2, 1 << 32, -1 << 32}, outside...) {
			wantMovesFail(t, "", b, kind, 1)
		}
	}
}

func TestInvalidWeathersOfMovers(t *testing.T) {
	for _, b := range trails()[:30] {
		for _, weather := range noWeathers {
			wantMovesFail(t, "", b, 0, weather)
			wantMovesFail(t, "", b, len(b.Rules.Kinds)-1, weather)
		}
	}
}

func TestInvalidHexesOfMovers(t *testing.T) {
	for _, b := range trails()[:30] {
		n := len(b.Map.Terrain)
		for _, i := range append([]int{n, n + 1, 100, -2, -n, 1 << 32, -1 << 32}, outside...) {
			wantStepsFail(t, "", b, 0, 0, i)
			wantStepsFail(t, "", b, len(b.Rules.Kinds)-1, 2, i)
			wantWalkFails(t, "", b, i)
		}
	}
}

func TestInvalidDirectionsOfCosts(t *testing.T) {
	for _, b := range trails()[:30] {
		for i := range b.Map.Terrain {
			for _, d := range append([]int{6, 7, -2, -6, 1 << 32, -1 << 32}, outside...) {
				n, ok := impl.StepCost(b, 0, 0, i, d)
				wantZero(t, fmt.Sprint("StepCost in direction ", d), ok, n)
			}
		}
	}
}

// callAllOnTrail calls every function of the chapter with a path, and overwrites
// and extends the results.
func callAllOnTrail(b impl.Board, path []int) {
	for i := -1; i <= len(b.Map.Terrain); i++ {
		list, _ := impl.PathHexes(b, i, path)
		overwrite(list)
		_, list, _ = impl.ReversePath(b, i, path)
		overwrite(list)
		for kind := -1; kind <= len(b.Rules.Kinds); kind++ {
			for weather := -1; weather <= 3; weather++ {
				impl.StepCost(b, kind, weather, i, weather+kind)
				list, _ := impl.StepCosts(b, kind, weather, i)
				overwrite(list)
				impl.PathCost(b, kind, weather, i, path)
				impl.StepsWithin(b, kind, weather, i, path, 5)
				impl.CheapestStep(b, kind, weather, i)
				impl.CostliestStep(b, kind, weather)
			}
		}
	}
}

func TestCostsChangeNothing(t *testing.T) {
	list := slices.Concat(trails()[:9], trails()[20:40], invalidBoards()[:60])
	for n, b := range list {
		if len(b.Map.Terrain) > 30 {
			continue
		}
		given := boardWithSpare(b)
		kept := wholeOf(given)
		path := slices.Concat(somePaths()[n%9], []int{1, 2, 4})
		keptPath := slices.Clone(path)
		callAllOnTrail(given, path[:len(path)-3])
		if now := wholeOf(given); now != kept {
			t.Fatalf("%s is changed to %s", kept, now)
		}
		if !slices.Equal(path, keptPath) {
			t.Fatalf("the path %v is changed to %v", keptPath, path)
		}
	}
}

// What lies behind the lists of a board and behind a path plays no part.
func TestSpareCapacityOfTrails(t *testing.T) {
	random := rand.New(rand.NewSource(92))
	for n, b := range trails()[:60] {
		given := boardWithSpare(b)
		kind, weather := n%len(b.Rules.Kinds), n%3
		wantCostsBySearch(t, given, kind, weather)
		costs := costsBySearch(b, kind, weather)
		for range 10 {
			i := random.Intn(len(b.Map.Terrain))
			path := drawnWay(random, b, i)
			wantWay(t, given, kind, weather, costs, i, slices.Concat(path, []int{0, 9, 3})[:len(path)])
		}
		wantMovesFail(t, " with spare kinds", given, len(b.Rules.Kinds), weather)
	}
	// A spare river, a spare road, and a spare row of the map.
	b := trailRow(meadow, meadow)
	b.Map.Rivers, b.Map.Roads = []int{0}[:0], []int{0}[:0]
	b.Map.Terrain = []int{meadow, meadow, meadow, meadow}[:2]
	wantCosts(t, b, walker, 0, 0, 3, 0, 0, 0, 0, 0)
	wantCosts(t, b, walker, 0, 1, 0, 0, 0, 3, 0, 0)
}

func TestListsOfCostsAreNew(t *testing.T) {
	b := park()
	path := []int{0, 5, 4, 1, 3}
	wantNewLists(t, map[string]func() ([]int, bool){
		"StepCosts": func() ([]int, bool) { return impl.StepCosts(b, walker, 0, middle) },
		"no costs":  func() ([]int, bool) { return impl.StepCosts(b, statue, 0, middle) },
		"PathHexes": func() ([]int, bool) { return impl.PathHexes(b, 0, path) },
		"ReversePath": func() ([]int, bool) {
			_, back, ok := impl.ReversePath(b, 0, path)
			return back, ok
		},
		"ReversePath of one step": func() ([]int, bool) {
			_, back, ok := impl.ReversePath(b, middle, path[4:])
			return back, ok
		},
	})
	if !sameBoard(b, park()) || !slices.Equal(path, []int{0, 5, 4, 1, 3}) {
		t.Errorf("the board or the path is changed: %v, %v", b, path)
	}
}

// wantAnyNumbers requires the results for any numbers to be those of the
// definition, or zero values.
func wantAnyNumbers(t *testing.T, b impl.Board, kind, weather, i int, path []int) {
	t.Helper()
	on := impl.IsBoard(b) && 0 <= i && i < len(b.Map.Terrain)
	moving := on && 0 <= kind && kind < len(b.Rules.Kinds) && 0 <= weather && weather <= 2
	switch isPath := len(path) <= 9 && !slices.ContainsFunc(path, func(d int) bool { return d < 0 || d > 5 }); {
	case moving && isPath:
		wantWay(t, b, kind, weather, costsBySearch(b, kind, weather), i, path)
	case on && !isPath:
		wantNoPath(t, b, i, path)
	case !on:
		wantWalkFails(t, "", b, i)
		wantStepsFail(t, "", b, kind, weather, i)
	default:
		wantStepsFail(t, "", b, kind, weather, i)
	}
}

func TestAnyNumbersForCosts(t *testing.T) {
	random := rand.New(rand.NewSource(93))
	numbers := append([]int{0, 1, 2, 3, 4, 5, 6, 8, 9, 1 << 32}, outside...)
	draw := func() int { return numbers[random.Intn(len(numbers))] }
	some := func(most int) int {
		if random.Intn(4) == 0 {
			return draw()
		}
		return random.Intn(most + 1)
	}
	valid := 0
	for range 10000 {
		b := park()
		if random.Intn(4) == 0 {
			b.Map.Width, b.Map.Rivers, b.Rules.River, b.Rules.Road = some(3), []int{draw()}, draw(), draw()
		}
		kind, weather, i := some(3), some(2), some(8)
		var path []int
		for range random.Intn(12) {
			path = append(path, random.Intn(6))
		}
		if len(path) > 0 && random.Intn(4) == 0 {
			path[random.Intn(len(path))] = draw()
		}
		wantAnyNumbers(t, b, kind, weather, i, path)
		if _, ok := impl.StepCosts(b, kind, weather, i); ok {
			valid++
		}
		impl.WeatherCost(draw(), true)
		impl.StepCost(b, draw(), draw(), draw(), draw())
		impl.StepCosts(b, draw(), draw(), draw())
		impl.PathHexes(b, draw(), path)
		impl.PathCost(b, draw(), draw(), draw(), path)
		impl.StepsWithin(b, draw(), draw(), draw(), path, draw())
		impl.CheapestStep(b, draw(), draw(), draw())
		impl.ReversePath(b, draw(), path)
		impl.CostliestStep(b, draw(), draw())
	}
	if valid < 1000 || valid > 9000 {
		t.Errorf("%d of the calls are valid", valid)
	}
}
