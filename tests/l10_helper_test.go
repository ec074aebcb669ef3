package tests

import (
	"fmt"
	"math/rand"
	"slices"
	"testing"

	"loop.example/g00886/impl"
)

// trip is what the functions of the chapter are called with.
type trip struct {
	board   impl.Board
	kind    int
	weather int
	from    int
	to      int
}

func (x trip) distances() ([]int, bool) {
	return impl.DistancesFrom(x.board, x.kind, x.weather, x.from)
}

func (x trip) check(l []int) (bool, bool) {
	return impl.CheckDistances(x.board, x.kind, x.weather, x.from, l)
}

func (x trip) path() ([]int, bool) {
	return impl.CheapestPath(x.board, x.kind, x.weather, x.from, x.to)
}

func (x trip) count() (int, bool) {
	return impl.CountCheapest(x.board, x.kind, x.weather, x.from, x.to)
}

func (x trip) reach(moves int) ([]int, bool) {
	return impl.ReachOf(x.board, x.kind, x.weather, x.from, moves)
}

func (x trip) farthest() (int, []int, bool) {
	return impl.FarthestFrom(x.board, x.kind, x.weather, x.from)
}

func (x trip) detour(avoid ...int) (int, bool) {
	return impl.DetourCost(x.board, x.kind, x.weather, x.from, x.to, avoid)
}

func (x trip) meeting() (int, bool) {
	return impl.MeetingHex(x.board, x.kind, x.weather, x.from, x.to)
}

func (x trip) turns() (int, bool) {
	return impl.TurnsNeeded(x.board, x.kind, x.weather, x.from, x.to)
}

// walk is a trip of the walker of trailRules in the weather 0.
func walk(b impl.Board, from, to int) trip {
	return trip{b, walker, 0, from, to}
}

// in returns the trip in another weather.
func (x trip) in(weather int) trip {
	x.weather = weather
	return x
}

func (x trip) by(kind int) trip {
	x.kind = kind
	return x
}

func (x trip) back() trip {
	x.from, x.to = x.to, x.from
	return x
}

// atlas has what the definitions say of a kind on a board in a weather: where
// each step leads and what it costs, or 0, and the distances between all pairs
// of hexes, or -1.
type atlas struct {
	board impl.Board
	ends  [][]int
	costs [][]int
	apart [][]int
}

// atlasOf reads costs from edge to edge and finds distances over one more hex
// between all pairs after the other, not by a search from hex to hex. No step
// leads into the hexes to be avoided.
func atlasOf(b impl.Board, kind, weather int, avoid ...int) atlas {
	x := atlas{board: b, costs: costsBySearch(b, kind, weather)}
	for i := range b.Map.Terrain {
		x.ends = append(x.ends, make([]int, 6))
		x.apart = append(x.apart, slices.Repeat([]int{-1}, len(b.Map.Terrain)))
		for d := range 6 {
			k := nextBySearch(b, i, d)
			if slices.Contains(avoid, k) {
				x.costs[i][d] = 0
			}
			x.ends[i][d] = k
			if cost := x.costs[i][d]; cost > 0 {
				x.apart[i][k] = cost
			}
		}
		x.apart[i][i] = 0
	}
	for over := range x.apart {
		for i := range x.apart {
			for k := range x.apart {
				first, rest := x.apart[i][over], x.apart[over][k]
				if first >= 0 && rest >= 0 && (x.apart[i][k] < 0 || first+rest < x.apart[i][k]) {
					x.apart[i][k] = first + rest
				}
			}
		}
	}
	return x
}

// beginsCheapest reports whether a cheapest path from i to k begins with a
// direction.
func (x atlas) beginsCheapest(i, k, d int) bool {
	if x.costs[i][d] == 0 || i == k {
		return false
	}
	rest := x.apart[x.ends[i][d]][k]
	return rest >= 0 && x.costs[i][d]+rest == x.apart[i][k]
}

// pathBySearch takes the first direction that begins a cheapest path, again and
// again.
func (x atlas) pathBySearch(i, k int) []int {
	var path []int
	for i != k {
		d := 0
		for !x.beginsCheapest(i, k, d) {
			d++
		}
		path = append(path, d)
		i = x.ends[i][d]
	}
	return path
}

// countsBySearch counts the cheapest paths from each hex to k.
func (x atlas) countsBySearch(k int) []int {
	counts := map[int]int{k: 1}
	var count func(i int) int
	count = func(i int) int {
		if n, ok := counts[i]; ok {
			return n
		}
		n := 0
		for d := range 6 {
			if x.beginsCheapest(i, k, d) {
				n += count(x.ends[i][d])
			}
		}
		counts[i] = n
		return n
	}
	list := make([]int, len(x.apart))
	for i := range list {
		list[i] = count(i)
	}
	return list
}

// meetingBySearch reads the contract of MeetingHex word by word, or returns -1.
func (x atlas) meetingBySearch(i, k int) int {
	best, least := -1, []int(nil)
	for at := range x.apart {
		of, ok := x.apart[i][at], x.apart[k][at]
		if of < 0 || ok < 0 {
			continue
		}
		if rank := []int{max(of, ok), of + ok}; best < 0 || slices.Compare(rank, least) < 0 {
			best, least = at, rank
		}
	}
	return best
}

// turnsBySearch returns the turns in which a unit comes from i to each hex, or
// -1: in each turn, it comes to the hexes that are within its moves from one of
// those before.
func (x atlas) turnsBySearch(i, moves int) []int {
	turns := slices.Repeat([]int{-1}, len(x.apart))
	turns[i] = 0
	for turn, found := 1, true; found; turn++ {
		found = false
		for at := range turns {
			for k, cost := range x.apart[at] {
				if turns[at] == turn-1 && turns[k] < 0 && cost >= 0 && cost <= moves {
					turns[k] = turn
					found = true
				}
			}
		}
	}
	return turns
}

// withMoves returns a board whose kinds have other moves.
func withMoves(b impl.Board, moves int) impl.Board {
	b = copyBoard(b)
	for k := range b.Rules.Kinds {
		b.Rules.Kinds[k].Moves = moves
	}
	return b
}

// journeys returns the boards of trails with moves of all sorts.
func journeys() []impl.Board {
	list := trails()
	for n, b := range list {
		if n >= 10 {
			list[n] = withMoves(b, n%10)
		}
	}
	return list
}

// drawnTrip returns a trip of any kind in any weather between any hexes.
func drawnTrip(random *rand.Rand, b impl.Board) trip {
	n := len(b.Map.Terrain)
	return trip{b, random.Intn(len(b.Rules.Kinds)), random.Intn(3), random.Intn(n), random.Intn(n)}
}

// drawnAvoid returns a list of hexes, strictly increasing.
func drawnAvoid(random *rand.Rand, b impl.Board) []int {
	one := 1 + random.Intn(8)
	return hexesBySearch(b, func(int) bool { return random.Intn(one) == 0 })
}

// wantOrNone requires a number, or a failure if it is -1.
func wantOrNone(t *testing.T, name string, x trip, n int, ok bool, want int) {
	t.Helper()
	if ok != (want >= 0) || n != max(want, 0) {
		t.Errorf("%s of %v: %d, %v, want %d", name, x, n, ok, want)
	}
}

// wantHexesOf requires a list of hexes, or of numbers of hexes.
func wantHexesOf(t *testing.T, name string, x trip, list []int, ok bool, want []int) {
	t.Helper()
	if !ok || !slices.Equal(list, want) {
		t.Errorf("%s of %v: %v, %v, want %v", name, x, list, ok, want)
	}
}

func wantTurns(t *testing.T, x trip, want int) {
	t.Helper()
	n, ok := x.turns()
	wantOrNone(t, "TurnsNeeded", x, n, ok, want)
}

func wantMeeting(t *testing.T, x trip, want int) {
	t.Helper()
	n, ok := x.meeting()
	wantOrNone(t, "MeetingHex", x, n, ok, want)
}

func wantDetour(t *testing.T, x trip, want int, avoid ...int) {
	t.Helper()
	n, ok := x.detour(avoid...)
	wantOrNone(t, fmt.Sprint("DetourCost without ", avoid), x, n, ok, want)
}

func wantCount(t *testing.T, x trip, want int) {
	t.Helper()
	n, ok := x.count()
	wantOrNone(t, "CountCheapest", x, n, ok, want)
}

func wantReach(t *testing.T, x trip, moves int, want ...int) {
	t.Helper()
	list, ok := x.reach(moves)
	wantHexesOf(t, fmt.Sprint("ReachOf ", moves, " moves"), x, list, ok, want)
}

func wantFarthest(t *testing.T, x trip, far int, want ...int) {
	t.Helper()
	if n, list, ok := x.farthest(); !ok || n != far || !slices.Equal(list, want) {
		t.Errorf("FarthestFrom of %v: %d, %v, %v, want %d, %v", x, n, list, ok, far, want)
	}
}

func wantCheck(t *testing.T, x trip, l []int, want bool) {
	t.Helper()
	if is, ok := x.check(l); !ok || is != want {
		t.Errorf("CheckDistances of %v and %v: %v, %v, want %v", x, l, is, ok, want)
	}
}

// wantDistances requires the distances of a trip, and that they are all that is
// reached with as many moves and farthest.
func wantDistances(t *testing.T, x trip, want ...int) {
	t.Helper()
	list, ok := x.distances()
	wantHexesOf(t, "DistancesFrom", x, list, ok, want)
	wantCheck(t, x, want, true)
	far := slices.Max(want)
	wantFarthest(t, x, far, hexesBySearch(x.board, func(i int) bool { return want[i] == far })...)
	for _, moves := range append([]int{0, 1000}, want...) {
		for _, n := range []int{moves - 1, moves, moves + 1} {
			if n >= 0 && n <= 1000 {
				wantReach(t, x, n, hexesBySearch(x.board, func(i int) bool { return want[i] >= 0 && want[i] <= n })...)
			}
		}
	}
}

// wantCheapestPath requires the first cheapest path of a trip and their number.
func wantCheapestPath(t *testing.T, x trip, count int, want ...int) {
	t.Helper()
	list, ok := x.path()
	wantHexesOf(t, "CheapestPath", x, list, ok, want)
	wantCount(t, x, count)
}

// wantNoWay requires the functions that need a way between two hexes to fail.
func wantNoWay(t *testing.T, x trip) {
	t.Helper()
	list, ok := x.path()
	wantZero(t, "CheapestPath", ok, list)
	wantCount(t, x, -1)
	wantTurns(t, x, -1)
	wantDetour(t, x, -1)
}

// wantTrip requires all that an atlas says of a trip.
func wantTrip(t *testing.T, a atlas, x trip) {
	t.Helper()
	wantMeeting(t, x, a.meetingBySearch(x.from, x.to))
	if a.apart[x.from][x.to] < 0 {
		wantNoWay(t, x)
		return
	}
	wantCheapestPath(t, x, a.countsBySearch(x.to)[x.from], a.pathBySearch(x.from, x.to)...)
	wantTurns(t, x, a.turnsBySearch(x.from, x.board.Rules.Kinds[x.kind].Moves)[x.to])
	wantDetour(t, x, a.apart[x.from][x.to])
}
