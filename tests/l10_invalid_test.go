package tests

import (
	"fmt"
	"math/rand"
	"slices"
	"testing"

	"loop.example/g00886/impl"
)

// someLists are lists of distances or of hexes to be avoided, valid and invalid
// ones.
func someLists() [][]int {
	return [][]int{nil, {0}, {0, 1}, {0, -1, 0}, {-1}, {1, 1}, {3, 2}, make([]int, 9)}
}

// wantFromFails requires the functions with a hex where ways begin to fail.
func wantFromFails(t *testing.T, what string, x trip) {
	t.Helper()
	what = fmt.Sprint(" of ", x.kind, " in ", x.weather, " from ", x.from, what)
	list, ok := x.distances()
	wantZero(t, "DistancesFrom"+what, ok, list)
	n, list, ok := x.farthest()
	wantZero(t, "FarthestFrom"+what, ok, n, list)
	for _, l := range someLists() {
		is, ok := x.check(l)
		wantZero(t, fmt.Sprint("CheckDistances ", l, what), ok, is)
	}
	for _, moves := range []int{-1, 0, 1000, 1001} {
		list, ok := x.reach(moves)
		wantZero(t, fmt.Sprint("ReachOf ", moves, what), ok, list)
	}
}

// wantBetweenFails requires the functions with two hexes to fail.
func wantBetweenFails(t *testing.T, what string, x trip) {
	t.Helper()
	what = fmt.Sprint(" of ", x.kind, " in ", x.weather, " from ", x.from, " to ", x.to, what)
	list, ok := x.path()
	wantZero(t, "CheapestPath"+what, ok, list)
	n, ok := x.count()
	wantZero(t, "CountCheapest"+what, ok, n)
	n, ok = x.meeting()
	wantZero(t, "MeetingHex"+what, ok, n)
	n, ok = x.turns()
	wantZero(t, "TurnsNeeded"+what, ok, n)
	for _, avoid := range someLists() {
		n, ok := x.detour(avoid...)
		wantZero(t, fmt.Sprint("DetourCost ", avoid, what), ok, n)
	}
}

// wantTripsFail requires every function to fail with a board, a kind and a
// weather, whatever the hexes are.
func wantTripsFail(t *testing.T, what string, b impl.Board, kind, weather int) {
	t.Helper()
	for _, i := range []int{-1, 0, 1, len(b.Map.Terrain) - 1} {
		wantFromFails(t, what, trip{b, kind, weather, i, i})
		wantBetweenFails(t, what, trip{b, kind, weather, i, i})
		wantBetweenFails(t, what, trip{b, kind, weather, i, 0})
	}
}

func TestTripsOnInvalidBoards(t *testing.T) {
	for _, b := range invalidBoards() {
		what := fmt.Sprint(" on ", b)
		for _, kind := range []int{-1, 0, 3} {
			wantTripsFail(t, what, b, kind, 0)
		}
		wantTripsFail(t, what, b, 0, 2)
	}
}

func TestTripsOfInvalidKinds(t *testing.T) {
	for _, b := range trails()[:30] {
		for _, kind := range append([]int{len(b.Rules.Kinds), 4, 5, -2, 1 << 32, -1 << 32}, outside...) {
			wantTripsFail(t, "", b, kind, 1)
		}
	}
}

func TestTripsInInvalidWeathers(t *testing.T) {
	for _, b := range trails()[:30] {
		for _, weather := range noWeathers {
			wantTripsFail(t, "", b, 0, weather)
			wantTripsFail(t, "", b, len(b.Rules.Kinds)-1, weather)
		}
	}
}

func TestTripsBetweenInvalidHexes(t *testing.T) {
	for _, b := range trails()[:30] {
		n := len(b.Map.Terrain)
		for _, i := range append([]int{n, n + 1, 100, -2, -n, 1 << 32, -1 << 32}, outside...) {
			for _, x := range []trip{{b, 0, 0, i, 0}, {b, len(b.Rules.Kinds) - 1, 2, i, i}} {
				wantFromFails(t, "", x)
				wantBetweenFails(t, "", x)
				wantBetweenFails(t, "", x.back())
			}
		}
	}
}

// callAllOnTrips calls every function of the chapter, and overwrites and extends
// the results.
func callAllOnTrips(x trip, l []int) {
	list, _ := x.distances()
	overwrite(list)
	list, _ = x.path()
	overwrite(list)
	list, _ = x.reach(5)
	overwrite(list)
	_, list, _ = x.farthest()
	overwrite(list)
	x.check(l)
	x.count()
	impl.DetourCost(x.board, x.kind, x.weather, x.from, x.to, l)
	x.meeting()
	x.turns()
}

func TestTripsChangeNothing(t *testing.T) {
	list := slices.Concat(trails()[:9], trails()[20:40], invalidBoards()[:60])
	for n, b := range list {
		given := boardWithSpare(b)
		kept := wholeOf(given)
		l := slices.Concat(someLists()[n%8], []int{7, 8, 9})
		keptList := slices.Clone(l)
		hexes := len(b.Map.Terrain)
		for _, ends := range [][2]int{{0, hexes - 1}, {hexes / 2, 0}, {-1, 0}, {0, hexes}} {
			for kind := -1; kind <= len(b.Rules.Kinds); kind++ {
				callAllOnTrips(trip{given, kind, n%5 - 1, ends[0], ends[1]}, l[:len(l)-3])
			}
		}
		if now := wholeOf(given); now != kept {
			t.Fatalf("%s is changed to %s", kept, now)
		}
		if !slices.Equal(l, keptList) {
			t.Fatalf("the list %v is changed to %v", keptList, l)
		}
	}
}

// What lies behind the lists of a board and behind other lists plays no part.
func TestSpareCapacityOfTrips(t *testing.T) {
	random := rand.New(rand.NewSource(18))
	for _, b := range journeys()[:60] {
		given := boardWithSpare(b)
		x := drawnTrip(random, given)
		a := atlasOf(b, x.kind, x.weather)
		wantTrip(t, a, x)
		wantDistances(t, x, a.apart[x.from]...)
		distances := slices.Concat(a.apart[x.from], []int{5, -1})
		wantCheck(t, x, distances[:len(distances)-2], true)
		avoid := drawnAvoid(random, b)
		want := atlasOf(b, x.kind, x.weather, avoid...).apart[x.from][x.to]
		// Behind the list are a number that is no hex and the end of the way.
		wantDetour(t, x, want, slices.Concat(avoid, []int{-1, x.to})[:len(avoid)]...)
		wantTripsFail(t, " with spare kinds", given, len(b.Rules.Kinds), x.weather)
	}
	b := trailRow(meadow, meadow, meadow)
	b.Map.Terrain = b.Map.Terrain[:2]
	b.Map.Width = 2
	wantDistances(t, walk(b, 0, 1), 0, 3)
	wantBetweenFails(t, " behind the map", walk(b, 0, 2))
	wantDetour(t, walk(b, 0, 1), 3, []int{1}[:0]...)
}

func TestListsOfTripsAreNew(t *testing.T) {
	b := trailBoard(3, meadow, thicket, meadow, meadow, meadow, thicket)
	x := walk(b, 0, 2)
	alone := walk(trailRow(meadow), 0, 0)
	farthestOf := func(x trip) func() ([]int, bool) {
		return func() ([]int, bool) {
			_, list, ok := x.farthest()
			return list, ok
		}
	}
	wantNewLists(t, map[string]func() ([]int, bool){
		"DistancesFrom":            x.distances,
		"DistancesFrom on one hex": alone.distances,
		"CheapestPath":             x.path,
		"ReachOf":                  func() ([]int, bool) { return x.reach(1000) },
		"ReachOf one hex":          func() ([]int, bool) { return x.reach(0) },
		"FarthestFrom":             farthestOf(x),
		"FarthestFrom on one hex":  farthestOf(alone),
	})
	if !sameBoard(b, trailBoard(3, meadow, thicket, meadow, meadow, meadow, thicket)) {
		t.Errorf("the board is changed: %v", b)
	}
}

// wantAnyTrip requires the results for any numbers to be those of the
// definition, or zero values.
func wantAnyTrip(t *testing.T, x trip) {
	t.Helper()
	n := len(x.board.Map.Terrain)
	moving := impl.IsBoard(x.board) && 0 <= x.kind && x.kind < len(x.board.Rules.Kinds) && 0 <= x.weather && x.weather <= 2
	begins, ends := moving && 0 <= x.from && x.from < n, 0 <= x.to && x.to < n
	if !begins {
		wantFromFails(t, "", x)
	}
	if !begins || !ends {
		wantBetweenFails(t, "", x)
		return
	}
	a := atlasOf(x.board, x.kind, x.weather)
	wantTrip(t, a, x)
	wantDistances(t, x, a.apart[x.from]...)
}

func TestAnyNumbersForTrips(t *testing.T) {
	random := rand.New(rand.NewSource(19))
	numbers := append([]int{0, 1, 2, 3, 4, 5, 6, 8, 9, 1 << 32}, outside...)
	draw := func() int { return numbers[random.Intn(len(numbers))] }
	some := func(most int) int {
		if random.Intn(5) == 0 {
			return draw()
		}
		return random.Intn(most + 1)
	}
	valid := 0
	for range 4000 {
		b := withMoves(park(), some(9))
		if random.Intn(4) == 0 {
			b.Map.Width, b.Map.Rivers, b.Rules.River, b.Rules.Road = some(3), []int{draw()}, draw(), draw()
		}
		x := trip{b, some(3), some(2), some(8), some(8)}
		wantAnyTrip(t, x)
		if _, ok := x.distances(); ok {
			valid++
		}
		l := []int{draw(), draw(), draw()}
		callAllOnTrips(trip{b, draw(), draw(), draw(), draw()}, l)
		callAllOnTrips(x, l)
		x.reach(draw())
	}
	if valid < 800 || valid > 3200 {
		t.Errorf("%d of the calls are valid", valid)
	}
}
