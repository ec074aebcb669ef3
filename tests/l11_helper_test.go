package tests

import (
	"fmt"
	"math/rand"
	"slices"
	"testing"

	"loop.example/g00886/impl"
)

// depot is what the functions of the chapter are called with.
type depot struct {
	board   impl.Board
	state   impl.State
	sources []int
}

func (x depot) blocked(side, i int) (bool, bool) {
	return impl.SupplyBlocked(x.board, x.state, side, i)
}

func (x depot) distances(side, kind int) ([]int, bool) {
	return impl.SupplyDistances(x.board, x.state, side, kind, x.sources)
}

func (x depot) supplies(u int) (bool, bool) {
	return impl.InSupply(x.board, x.state, u, x.sources)
}

func (x depot) path(u int) ([]int, bool) {
	return impl.SupplyPath(x.board, x.state, u, x.sources)
}

func (x depot) check(u int, list []int) (bool, bool) {
	return impl.CheckSupplyPath(x.board, x.state, u, x.sources, list)
}

func (x depot) units(side int) ([]int, bool) {
	return impl.SuppliedUnits(x.board, x.state, side, x.sources)
}

func (x depot) cuts(u int) ([]int, bool) {
	return impl.CutHexes(x.board, x.state, u, x.sources)
}

func (x depot) lose(side int) (impl.State, bool) {
	return impl.LoseUnsupplied(x.board, x.state, side, x.sources)
}

func (x depot) margin(u int) (int, bool) {
	return impl.SupplyMargin(x.board, x.state, u, x.sources)
}

// from returns the depot with other sources.
func (x depot) from(sources ...int) depot {
	x.sources = sources
	return x
}

// within returns the depot on a board with another Supply.
func (x depot) within(supply int) depot {
	x.board.Rules.Supply = supply
	return x
}

// ledger is what the definitions say of a depot: the neighbours of each hex, and
// which hexes are blocked for each side.
type ledger struct {
	depot
	next   [][]int
	closed [2][]bool
}

// ledgerOf goes from edge to edge, and reads word by word when a hex is blocked.
func ledgerOf(x depot) ledger {
	l := ledger{depot: x, next: make([][]int, len(x.board.Map.Terrain))}
	for _, e := range edgesBySearch(x.board.Map.Width, x.board.Map.Height) {
		l.next[e.from] = append(l.next[e.from], e.to)
		l.next[e.to] = append(l.next[e.to], e.from)
	}
	found := surveyOf(position{x.board, x.state})
	for side := range 2 {
		for i := range l.next {
			enemy, own := found.owners[i] == 1-side, found.owners[i] == side
			l.closed[side] = append(l.closed[side], enemy || found.inZone(1-side, i) && !own)
		}
	}
	return l
}

// lengths returns the steps of the shortest ways of a kind of a side from some
// hexes to each one, or -1. It makes ways shorter until nothing changes. Some
// hexes are blocked as well.
func (l ledger) lengths(side, kind int, begins []int, blocked ...int) []int {
	passes := func(i int) bool {
		return costAt(l.board, kind, i) > 0 && !l.closed[side][i] && !slices.Contains(blocked, i)
	}
	lengths := slices.Repeat([]int{-1}, len(l.next))
	for _, i := range begins {
		if passes(i) {
			lengths[i] = 0
		}
	}
	for changed := true; changed; {
		changed = false
		for i, around := range l.next {
			for _, k := range around {
				if lengths[i] >= 0 && passes(k) && (lengths[k] < 0 || lengths[k] > lengths[i]+1) {
					lengths[k] = lengths[i] + 1
					changed = true
				}
			}
		}
	}
	return lengths
}

// length returns the steps of the shortest supply path of a unit, or -1 if it is
// not in supply, if some hexes are blocked as well.
func (l ledger) length(u int, blocked ...int) int {
	v := l.state.Units[u]
	if v.At == -1 {
		return -1
	}
	n := l.lengths(v.Side, v.Kind, l.sources, blocked...)[v.At]
	if n > l.board.Rules.Supply {
		return -1
	}
	return n
}

// pathBySearch returns the supply path of a unit that is in supply. It looks back
// from the unit: the first source that is near enough, then again and again the
// first hex that is nearer.
func (l ledger) pathBySearch(u int) []int {
	v, n := l.state.Units[u], l.length(u)
	back := l.lengths(v.Side, v.Kind, []int{v.At})
	at := l.sources[slices.IndexFunc(l.sources, func(i int) bool { return back[i] == n })]
	list := []int{at}
	for ; n > 0; n-- {
		nearer := slices.DeleteFunc(slices.Clone(l.next[at]), func(i int) bool { return back[i] != n-1 })
		at = slices.Min(nearer)
		list = append(list, at)
	}
	return list
}

// cutsBySearch tries all hexes, not only those of a path.
func (l ledger) cutsBySearch(u int) []int {
	return hexesBySearch(l.board, func(i int) bool { return l.length(u, i) < 0 })
}

// isPathBySearch reads the definition of a supply path word by word.
func (l ledger) isPathBySearch(u int, list []int) bool {
	v, n := l.state.Units[u], len(list)
	if v.At == -1 || n == 0 || n > l.board.Rules.Supply+1 || !slices.Contains(l.sources, list[0]) || list[n-1] != v.At {
		return false
	}
	for k, i := range list {
		if i < 0 || i >= len(l.next) || costAt(l.board, v.Kind, i) == 0 || l.closed[v.Side][i] {
			return false
		}
		if k > 0 && !slices.Contains(l.next[list[k-1]], i) {
			return false
		}
	}
	return true
}

// lostBySearch reads the contract of LoseUnsupplied word by word.
func (l ledger) lostBySearch(side int) impl.State {
	lost := copyState(l.state)
	for u, v := range l.state.Units {
		if v.Side == side && v.At != -1 && l.length(u) < 0 {
			lost.Units[u].Steps--
			if v.Steps == 1 {
				lost.Units[u].At = -1
			}
		}
	}
	return lost
}

// drawnSources returns sources, strictly increasing: a few in one of ten depots,
// as many as there may be in another one.
func drawnSources(random *rand.Rand, b impl.Board) []int {
	list := random.Perm(len(b.Map.Terrain))
	most := []int{0, 1, 1, 1, 2, 2, 2, 3, 4, impl.MaxSources}[random.Intn(10)]
	list = list[:min(most, len(list))]
	slices.Sort(list)
	return list
}

// drawnDepot returns a depot with any Supply. Half of them have few units, of
// which all can enter everything, so that ways are long.
func drawnDepot(random *rand.Rand) depot {
	b := drawnFront(random)
	b.Rules.Supply = random.Intn(21)
	if random.Intn(2) == 0 {
		b.Rules.Supply = random.Intn(5)
	}
	easy := random.Intn(2) == 0
	if easy {
		b.Map = plainMap(1+random.Intn(7), 1+random.Intn(7))
		for i := range b.Rules.Terrains {
			b.Rules.Terrains[i].Cost = slices.Repeat([]int{1}, len(b.Rules.Kinds))
		}
	}
	s := drawnState(random, b)
	if easy {
		s.Units = s.Units[:min(len(s.Units), 4)]
	}
	for u := range s.Units {
		// Elsewhere than in the first hexes, where a unit may be.
		moved := withAt(s, u, random.Intn(len(b.Map.Terrain)))
		if easy && validBySearch(b, moved) {
			s = moved
		}
	}
	return depot{b, s, drawnSources(random, b)}
}

// depots returns drawn depots, and others at the positions of chapter 8.
func depots() []depot {
	random := rand.New(rand.NewSource(11))
	var list []depot
	for _, p := range fronts()[:60] {
		list = append(list, depot{p.board, p.state, drawnSources(random, p.board)})
	}
	for range 500 {
		list = append(list, drawnDepot(random))
	}
	return list
}

// rearOf returns a depot on a row of plain hexes.
func rearOf(length int, sources ...int) depot {
	return depot{frontRow(make([]int, length)...), stateOf(), sources}
}

// having returns the depot with other units.
func (x depot) having(units ...impl.Unit) depot {
	x.state = stateOf(units...)
	return x
}

// wantBlocked requires the hexes that are blocked for a side.
func wantBlocked(t *testing.T, x depot, side int, want ...int) {
	t.Helper()
	for i := range x.board.Map.Terrain {
		if is, ok := x.blocked(side, i); !ok || is != slices.Contains(want, i) {
			t.Errorf("SupplyBlocked of %d for side %d in %v: %v, %v, want %v", i, side, x, is, ok, want)
		}
	}
}

func wantLengths(t *testing.T, x depot, side, kind int, want ...int) {
	t.Helper()
	list, ok := x.distances(side, kind)
	wantList(t, fmt.Sprint("SupplyDistances of side ", side, " and kind ", kind, " in ", x), list, ok, want)
}

func wantChecked(t *testing.T, x depot, u int, want bool, list ...int) {
	t.Helper()
	if is, ok := x.check(u, list); !ok || is != want {
		t.Errorf("CheckSupplyPath of unit %d and %v in %v: %v, %v, want %v", u, list, x, is, ok, want)
	}
}

func wantCuts(t *testing.T, x depot, u int, want ...int) {
	t.Helper()
	list, ok := x.cuts(u)
	wantList(t, fmt.Sprint("CutHexes of unit ", u, " in ", x), list, ok, want)
}

// wantSupplied requires a unit to be in supply along a path.
func wantSupplied(t *testing.T, x depot, u int, want ...int) {
	t.Helper()
	what := fmt.Sprint(" of unit ", u, " in ", x)
	if is, ok := x.supplies(u); !ok || !is {
		t.Errorf("InSupply%s: %v, %v", what, is, ok)
	}
	list, ok := x.path(u)
	wantList(t, "SupplyPath"+what, list, ok, want)
	wantChecked(t, x, u, true, want...)
	n, ok := x.margin(u)
	wantNumber(t, "SupplyMargin"+what, n, ok, x.board.Rules.Supply-len(want)+1)
}

// wantUnsupplied requires a unit not to be in supply, whether it is on the map or
// not.
func wantUnsupplied(t *testing.T, x depot, u int) {
	t.Helper()
	what := fmt.Sprint(" of unit ", u, " in ", x)
	if is, ok := x.supplies(u); !ok || is {
		t.Errorf("InSupply%s: %v, %v", what, is, ok)
	}
	list, ok := x.path(u)
	wantZero(t, "SupplyPath"+what, ok, list)
	list, ok = x.cuts(u)
	wantZero(t, "CutHexes"+what, ok, list)
	n, ok := x.margin(u)
	wantZero(t, "SupplyMargin"+what, ok, n)
}

// wantUnits requires the units of a side that are in supply.
func wantUnits(t *testing.T, x depot, side int, want ...int) {
	t.Helper()
	list, ok := x.units(side)
	wantList(t, fmt.Sprint("SuppliedUnits of side ", side, " in ", x), list, ok, want)
}

// wantLost requires the units after the losses of a side.
func wantLost(t *testing.T, x depot, side int, want ...impl.Unit) {
	t.Helper()
	after := copyState(x.state)
	after.Units = want
	lost, ok := x.lose(side)
	wantChanged(t, fmt.Sprint("LoseUnsupplied of side ", side, " in ", x), x.board, lost, ok, after)
}

// wantLedger requires the results of all functions of the chapter for a depot.
func wantLedger(t *testing.T, l ledger) {
	t.Helper()
	for side := range 2 {
		wantBlocked(t, l.depot, side, hexesBySearch(l.board, func(i int) bool { return l.closed[side][i] })...)
		for kind := range l.board.Rules.Kinds {
			wantLengths(t, l.depot, side, kind, l.lengths(side, kind, l.sources)...)
		}
		var units []int
		for u, v := range l.state.Units {
			if v.Side == side && l.length(u) >= 0 {
				units = append(units, u)
			}
		}
		wantUnits(t, l.depot, side, units...)
		wantLost(t, l.depot, side, l.lostBySearch(side).Units...)
	}
	for u := range l.state.Units {
		if l.length(u) < 0 {
			wantUnsupplied(t, l.depot, u)
		} else {
			wantSupplied(t, l.depot, u, l.pathBySearch(u)...)
			wantCuts(t, l.depot, u, l.cutsBySearch(u)...)
		}
	}
}
