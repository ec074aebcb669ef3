package tests

import (
	"fmt"
	"math/rand"
	"testing"

	"loop.example/g00886/impl"
)

// noRanges are numbers below and above every range.
var noRanges = append([]int{21, 22, -20, 1 << 32, -1 << 32}, outside...)

// wantEndsFail requires every function with two hexes to fail, in both
// directions and with any hex between them.
func wantEndsFail(t *testing.T, what string, b impl.Board, i, k int) {
	t.Helper()
	for _, ends := range [][2]int{{i, k}, {k, i}} {
		what := fmt.Sprint(" of ", ends, what)
		cells, ok := impl.SightCells(b, ends[0], ends[1])
		wantZero(t, "SightCells"+what, ok, cells)
		code, ok := impl.SightCode(b, ends[0], ends[1])
		wantZero(t, "SightCode"+what, ok, code)
		first, ok := impl.FirstBlock(b, ends[0], ends[1])
		wantZero(t, "FirstBlock"+what, ok, first)
		for _, x := range []int{0, i, k} {
			blocks, ok := impl.BlocksBetween(b, ends[0], ends[1], x)
			wantZero(t, fmt.Sprint("BlocksBetween ", x, what), ok, blocks)
		}
	}
}

func wantRangeFails(t *testing.T, what string, b impl.Board, i, far int) {
	t.Helper()
	list, ok := impl.SeenFrom(b, i, far)
	wantZero(t, fmt.Sprint("SeenFrom ", i, far, what), ok, list)
	list, ok = impl.ClearFrom(b, i, far)
	wantZero(t, fmt.Sprint("ClearFrom ", i, far, what), ok, list)
}

func wantViewFails(t *testing.T, what string, b impl.Board, kind, i int) {
	t.Helper()
	list, ok := impl.SeenBy(b, kind, i)
	wantZero(t, fmt.Sprint("SeenBy ", kind, i, what), ok, list)
	list, ok = impl.WatchersOf(b, kind, i)
	wantZero(t, fmt.Sprint("WatchersOf ", kind, i, what), ok, list)
}

// wantLookersFail requires every function with a kind to fail.
func wantLookersFail(t *testing.T, what string, b impl.Board, kind int) {
	t.Helper()
	for i := -1; i <= 3; i++ {
		wantViewFails(t, what, b, kind, i)
	}
	i, n, ok := impl.BestLookout(b, kind)
	wantZero(t, fmt.Sprint("BestLookout ", kind, what), ok, i, n)
}

func TestSightOnInvalidBoards(t *testing.T) {
	for _, b := range invalidBoards() {
		what := fmt.Sprint(" on ", b)
		for i := -1; i <= 3; i++ {
			wantEndsFail(t, what, b, i, 0)
			for _, far := range []int{-1, 0, 1, 20} {
				wantRangeFails(t, what, b, i, far)
			}
		}
		for kind := -1; kind <= 4; kind++ {
			wantLookersFail(t, what, b, kind)
		}
	}
}

func TestInvalidHexesOfSights(t *testing.T) {
	for _, m := range []impl.Map{variedMap(1, 1), variedMap(3, 2), variedMap(10, 10)} {
		b := impl.Board{Rules: fullRules(), Map: m}
		n := len(m.Terrain)
		for _, i := range append([]int{n, n + 1, -2, -n, 1 << 32, -1 << 32}, outside...) {
			for _, k := range []int{0, n - 1, i} {
				wantEndsFail(t, "", b, i, k)
				blocks, ok := impl.BlocksBetween(b, 0, min(max(k, 0), n-1), i)
				wantZero(t, fmt.Sprint("BlocksBetween of the hex ", i), ok, blocks)
			}
			for _, far := range []int{0, 1, 20} {
				wantRangeFails(t, "", b, i, far)
			}
			for kind := range b.Rules.Kinds {
				wantViewFails(t, "", b, kind, i)
			}
		}
	}
}

func TestInvalidRanges(t *testing.T) {
	for _, b := range []impl.Board{exampleBoard(), campBoard(), {Rules: fullRules(), Map: variedMap(10, 10)}} {
		for i := range b.Map.Terrain {
			for _, far := range noRanges {
				wantRangeFails(t, "", b, i, far)
			}
			for _, far := range []int{0, 20} {
				seenFrom(t, b, i, far)
				clearFrom(t, b, i, far)
			}
		}
	}
}

func TestInvalidKindsOfLookers(t *testing.T) {
	for _, b := range sightBoards() {
		for _, kind := range append([]int{len(b.Rules.Kinds), 4, 5, 1 << 32}, outside...) {
			wantLookersFail(t, "", b, kind)
		}
	}
}

// callAllOnSight calls every function of the chapter, and overwrites and extends
// the results.
func callAllOnSight(b impl.Board) {
	n := len(b.Map.Terrain)
	for i := -1; i <= n; i++ {
		for _, k := range []int{-1, 0, n / 2, n - 1, n} {
			cells, _ := impl.SightCells(b, i, k)
			overwriteLists(cells)
			impl.SightCode(b, i, k)
			impl.FirstBlock(b, i, k)
			impl.BlocksBetween(b, i, k, n/3)
		}
		for _, far := range []int{-1, 0, 2, 20, 21} {
			list, _ := impl.SeenFrom(b, i, far)
			overwrite(list)
			list, _ = impl.ClearFrom(b, i, far)
			overwrite(list)
		}
		for kind := -1; kind <= len(b.Rules.Kinds); kind++ {
			list, _ := impl.SeenBy(b, kind, i)
			overwrite(list)
			list, _ = impl.WatchersOf(b, kind, i)
			overwrite(list)
			impl.BestLookout(b, kind)
		}
	}
}

func TestSightChangesNoBoard(t *testing.T) {
	list := append(invalidBoards(), sightBoards()[3:40]...)
	for _, b := range append(list, exampleBoard(), campBoard()) {
		if len(b.Map.Terrain) > 30 {
			continue
		}
		given := boardWithSpare(b)
		kept := wholeOf(given)
		callAllOnSight(given)
		if now := wholeOf(given); now != kept {
			t.Fatalf("%s is changed to %s", kept, now)
		}
	}
}

// What lies behind the lists of a board plays no part.
func TestSpareCapacityInSight(t *testing.T) {
	for _, b := range sightBoards()[:20] {
		given := boardWithSpare(b)
		n := len(b.Map.Terrain)
		for i := range n {
			wantSeen(t, given, i, 20, seenFrom(t, b, i, 20), clearFrom(t, b, i, 20))
			wantEndsFail(t, " with spare capacity", given, i, n)
			wantRangeFails(t, " with spare capacity", given, n, 20)
		}
		wantLookersFail(t, " with spare capacity", given, len(b.Rules.Kinds))
	}
}

func TestCellsAreApart(t *testing.T) {
	b := impl.Board{Rules: fullRules(), Map: variedMap(10, 10)}
	for i := range b.Map.Terrain {
		for _, k := range []int{0, 9, 44, 77, 95, 99} {
			wantListsApart(t, fmt.Sprint("SightCells of ", i, " and ", k), func() [][]int { return cellsOf(t, b, i, k) })
		}
	}
	if !sameBoard(b, impl.Board{Rules: fullRules(), Map: variedMap(10, 10)}) {
		t.Error("the board itself is changed")
	}
}

func TestListsOfSightAreNew(t *testing.T) {
	b := impl.Board{Rules: fullRules(), Map: variedMap(5, 4)}
	wantNewLists(t, map[string]func() ([]int, bool){
		"SeenFrom 0":  func() ([]int, bool) { return impl.SeenFrom(b, 7, 0) },
		"SeenFrom":    func() ([]int, bool) { return impl.SeenFrom(b, 7, 20) },
		"ClearFrom 0": func() ([]int, bool) { return impl.ClearFrom(b, 7, 0) },
		"ClearFrom":   func() ([]int, bool) { return impl.ClearFrom(b, 7, 20) },
		"SeenBy":      func() ([]int, bool) { return impl.SeenBy(b, 0, 7) },
		"WatchersOf":  func() ([]int, bool) { return impl.WatchersOf(b, 1, 7) },
	})
	if !sameBoard(b, impl.Board{Rules: fullRules(), Map: variedMap(5, 4)}) {
		t.Error("the board itself is changed")
	}
}

// Any numbers are accepted without a panic, and code and failure are those of
// the definition.
func TestAnyNumbersForSights(t *testing.T) {
	random := rand.New(rand.NewSource(77))
	numbers := append([]int{0, 1, 2, 3, 4, 5, 7, 8, 20, 21, 1 << 32}, outside...)
	draw := func() int { return numbers[random.Intn(len(numbers))] }
	for range 20000 {
		b := campBoard()
		if random.Intn(2) == 0 {
			b.Map.Width, b.Map.Terrain[0], b.Rules.Terrains[1].Height, b.Rules.Kinds[1].View = draw(), draw(), draw(), draw()
		}
		i, k := draw(), draw()
		n := len(b.Map.Terrain)
		if impl.IsBoard(b) && 0 <= i && i < n && 0 <= k && k < n {
			code, first := codeBySearch(b, i, k)
			wantSight(t, b, i, k, code, first)
		} else {
			wantEndsFail(t, "", b, i, k)
		}
		impl.SightCells(b, draw(), draw())
		impl.BlocksBetween(b, draw(), draw(), draw())
		impl.SeenFrom(b, draw(), draw())
		impl.ClearFrom(b, draw(), draw())
		impl.SeenBy(b, draw(), draw())
		impl.WatchersOf(b, draw(), draw())
		impl.BestLookout(b, draw())
	}
}
