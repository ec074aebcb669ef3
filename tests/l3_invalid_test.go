package tests

import (
	"fmt"
	"math"
	"slices"
	"strings"
	"testing"

	"loop.example/g00886/impl"
)

// invalidRules returns rules with one fault each, and rules without anything.
func invalidRules() []impl.Rules {
	list := []impl.Rules{{}, sizedRules(0, 1), sizedRules(1, 0), sizedRules(7, 4), sizedRules(6, 5), sizedRules(20, 20)}
	for _, x := range ruleNumbers() {
		for _, n := range []int{math.MinInt, x.least - 1, x.greatest + 1, math.MaxInt} {
			r := fullRules()
			*x.at(&r) = n
			list = append(list, r)
		}
	}
	for _, at := range ruleNames() {
		for _, name := range []string{"", "A", "a1", "a b", "é", strings.Repeat("a", 9)} {
			r := fullRules()
			*at(&r) = name
			list = append(list, r)
		}
	}
	for i := range 6 {
		for _, n := range []int{0, 3, 5} {
			r := fullRules()
			r.Terrains[i].Cost = make([]int, n)
			list = append(list, r)
		}
	}
	terrains, kinds := fullRules(), fullRules()
	terrains.Terrains[5].Name, kinds.Kinds[3].Name = "plain", "foot"
	return append(list, terrains, kinds)
}

// invalidBoards returns boards with invalid rules, with invalid maps, and with
// terrain numbers that the rules do not have.
func invalidBoards() []impl.Board {
	list := []impl.Board{{}}
	for _, r := range invalidRules() {
		list = append(list, impl.Board{Rules: r, Map: variedMap(3, 2)})
	}
	for _, m := range invalidMaps() {
		list = append(list, impl.Board{Rules: fullRules(), Map: m})
	}
	for terrains := 1; terrains < 6; terrains++ {
		m := plainMap(3, 2)
		m.Terrain[5] = terrains
		r := fullRules()
		r.Terrains = r.Terrains[:terrains]
		list = append(list, impl.Board{Rules: r, Map: m})
	}
	return list
}

func wantIndexCallsFail(t *testing.T, what string, b impl.Board, kind, i, k int) {
	t.Helper()
	cost, ok := impl.EnterCost(b, kind, i)
	wantZero(t, fmt.Sprint("EnterCost ", kind, i, what), ok, cost)
	same, ok := impl.SameRegion(b, kind, i, k)
	wantZero(t, fmt.Sprint("SameRegion ", kind, i, k, what), ok, same)
	same, ok = impl.SameRegion(b, kind, k, i)
	wantZero(t, fmt.Sprint("SameRegion ", kind, k, i, what), ok, same)
}

// wantKindCallsFail requires every function with a kind to fail.
func wantKindCallsFail(t *testing.T, what string, b impl.Board, kind int) {
	t.Helper()
	open, ok := impl.OpenHexes(b, kind)
	wantZero(t, fmt.Sprint("OpenHexes ", kind, what), ok, open)
	regions, ok := impl.RegionsOf(b, kind)
	wantZero(t, fmt.Sprint("RegionsOf ", kind, what), ok, regions)
	for i := -1; i <= 4; i++ {
		wantIndexCallsFail(t, what, b, kind, i, 0)
	}
}

func TestInvalidRules(t *testing.T) {
	for _, r := range invalidRules() {
		if impl.IsRules(r) {
			t.Errorf("IsRules of %v", r)
		}
		for _, name := range []string{"", "plain", "foot", "sea", "A"} {
			i, ok := impl.TerrainNamed(r, name)
			wantZero(t, fmt.Sprint("TerrainNamed ", name, " of ", r), ok, i)
			i, ok = impl.KindNamed(r, name)
			wantZero(t, fmt.Sprint("KindNamed ", name, " of ", r), ok, i)
		}
		for _, m := range []impl.Map{{}, plainMap(1, 1), variedMap(10, 10)} {
			missing, ok := impl.MissingTerrains(r, m)
			wantZero(t, fmt.Sprint("MissingTerrains of ", r), ok, missing)
		}
	}
}

func TestInvalidBoards(t *testing.T) {
	for _, b := range invalidBoards() {
		what := fmt.Sprint(" on ", b)
		if impl.IsBoard(b) {
			t.Errorf("IsBoard of %v", b)
		}
		stuck, ok := impl.StuckKinds(b)
		wantZero(t, "StuckKinds"+what, ok, stuck)
		unused, ok := impl.UnusedTerrains(b)
		wantZero(t, "UnusedTerrains"+what, ok, unused)
		mirror, ok := impl.MirrorBoard(b)
		wantZero(t, "MirrorBoard"+what, ok, mirror)
		for kind := -1; kind <= 4; kind++ {
			wantKindCallsFail(t, what, b, kind)
		}
	}
}

func TestInvalidMapsForRules(t *testing.T) {
	for _, m := range invalidMaps() {
		missing, ok := impl.MissingTerrains(fullRules(), m)
		wantZero(t, fmt.Sprint("MissingTerrains of ", m), ok, missing)
	}
}

func TestInvalidKinds(t *testing.T) {
	for _, kind := range append([]int{4, 5}, outside...) {
		wantKindCallsFail(t, "", impl.Board{Rules: fullRules(), Map: variedMap(3, 3)}, kind)
	}
	for _, kind := range append([]int{1, 2, 3}, outside...) {
		wantKindCallsFail(t, "", exampleBoard(), kind)
	}
}

func TestInvalidIndicesOnBoards(t *testing.T) {
	for _, m := range []impl.Map{variedMap(1, 1), variedMap(3, 2), variedMap(10, 10)} {
		b := impl.Board{Rules: fullRules(), Map: m}
		n := len(m.Terrain)
		for _, i := range append([]int{n, n + 1, -n}, outside...) {
			for kind := range 4 {
				wantIndexCallsFail(t, "", b, kind, i, 0)
				wantIndexCallsFail(t, "", b, kind, i, i)
			}
		}
	}
}

// boardWithSpare returns a board all of whose slices have spare capacity, with
// values behind their lengths that would be valid.
func boardWithSpare(b impl.Board) impl.Board {
	b = copyBoard(b)
	b.Map, _ = withSpare(b.Map)
	r := &b.Rules
	for i, x := range r.Terrains {
		r.Terrains[i].Cost = slices.Concat(x.Cost, []int{7, 8, 9})[:len(x.Cost)]
	}
	terrains := []impl.Terrain{{Name: "spare", Cost: []int{1, 2, 3, 4}}, {Name: "more", Cost: []int{5}}}
	r.Terrains = slices.Concat(r.Terrains, terrains)[:len(r.Terrains)]
	kinds := []impl.Kind{{Name: "spare", Strength: 1, Steps: 1}, {Name: "more", Strength: 1, Steps: 1}}
	r.Kinds = slices.Concat(r.Kinds, kinds)[:len(r.Kinds)]
	return b
}

// wholeOf spells a board with all that lies behind its slices.
func wholeOf(b impl.Board) string {
	var text strings.Builder
	for _, x := range b.Rules.Terrains[:cap(b.Rules.Terrains)] {
		fmt.Fprintf(&text, "%#v %v\n", x, x.Cost[:cap(x.Cost)])
	}
	fmt.Fprintf(&text, "%#v\n", b.Rules.Kinds[:cap(b.Rules.Kinds)])
	b.Rules.Terrains, b.Rules.Kinds = nil, nil
	fmt.Fprintf(&text, "%#v\n", b.Rules)
	m := b.Map
	fmt.Fprintln(&text, m.Width, m.Height, m.Terrain[:cap(m.Terrain)], m.Rivers[:cap(m.Rivers)], m.Roads[:cap(m.Roads)])
	return text.String()
}

// overwriteBoard changes all elements of the slices of a board and what lies
// behind them.
func overwriteBoard(b impl.Board) {
	for _, list := range intListsOf(b) {
		overwrite(list)
	}
	terrains := b.Rules.Terrains[:cap(b.Rules.Terrains)]
	for i := range terrains {
		overwrite(terrains[i].Cost)
		terrains[i] = impl.Terrain{Name: "changed", Shift: -99}
	}
	kinds := b.Rules.Kinds[:cap(b.Rules.Kinds)]
	for i := range kinds {
		kinds[i] = impl.Kind{Name: "changed", Moves: -99}
	}
}

// intListsOf returns the lists of numbers that a board has.
func intListsOf(b impl.Board) [][]int {
	list := [][]int{b.Map.Terrain, b.Map.Rivers, b.Map.Roads}
	for _, x := range b.Rules.Terrains {
		list = append(list, x.Cost)
	}
	return list
}

// overwriteLists changes the lists and the list of them.
func overwriteLists(lists [][]int) {
	for _, x := range lists {
		overwrite(x)
	}
	lists = lists[:cap(lists)]
	for i := range lists {
		lists[i] = []int{-99}
	}
}

// callAllOnBoard calls every function of the chapter, and overwrites and
// extends the results.
func callAllOnBoard(b impl.Board) {
	impl.IsRules(b.Rules)
	impl.IsBoard(b)
	for _, name := range []string{"plain", "foot", "spare", ""} {
		impl.TerrainNamed(b.Rules, name)
		impl.KindNamed(b.Rules, name)
	}
	for kind := -1; kind <= 4; kind++ {
		for _, i := range []int{-1, 0, 1, len(b.Map.Terrain) - 1, len(b.Map.Terrain)} {
			impl.EnterCost(b, kind, i)
			impl.SameRegion(b, kind, i, 0)
			impl.SameRegion(b, kind, 0, i)
		}
		open, _ := impl.OpenHexes(b, kind)
		overwrite(open)
		regions, _ := impl.RegionsOf(b, kind)
		overwriteLists(regions)
	}
	stuck, _ := impl.StuckKinds(b)
	overwrite(stuck)
	unused, _ := impl.UnusedTerrains(b)
	overwrite(unused)
	missing, _ := impl.MissingTerrains(b.Rules, b.Map)
	overwrite(missing)
	mirror, _ := impl.MirrorBoard(b)
	overwriteBoard(mirror)
}

func TestBoardsAreNotChanged(t *testing.T) {
	for _, b := range append(append(variedBoards(), exampleBoard()), invalidBoards()...) {
		given := boardWithSpare(b)
		kept := wholeOf(given)
		callAllOnBoard(given)
		if now := wholeOf(given); now != kept {
			t.Fatalf("%s is changed to %s", kept, now)
		}
	}
}

// What lies behind the slices of a board plays no part in a result.
func TestSpareCapacityOfBoardsIsNotRead(t *testing.T) {
	for _, b := range append(variedBoards(), exampleBoard()) {
		given := boardWithSpare(b)
		if !impl.IsRules(given.Rules) || !sameBoard(mirrorBoardOf(t, given), mirrorBoardOf(t, b)) {
			t.Fatalf("%v with spare capacity is another board", b)
		}
		for _, name := range []string{"spare", "more"} {
			i, ok := impl.TerrainNamed(given.Rules, name)
			wantZero(t, "TerrainNamed "+name, ok, i)
			i, ok = impl.KindNamed(given.Rules, name)
			wantZero(t, "KindNamed "+name, ok, i)
		}
		for kind := range b.Rules.Kinds {
			if !sameLists(regionsOf(t, given, kind), regionsOf(t, b, kind)) {
				t.Fatalf("%v with spare capacity has other regions", b)
			}
		}
		wantKindCallsFail(t, " with spare kinds", given, len(b.Rules.Kinds))
	}
	short := costRules(1, 1)
	short.Terrains[0].Cost = []int{1}[:0]
	if impl.IsRules(short) {
		t.Error("a cost behind the length of Cost is read")
	}
}

// A mirror whose slices are overwritten one by one keeps the other ones, also if
// the slices of the given board are one.
func TestSlicesOfMirroredBoardsAreApart(t *testing.T) {
	shared := impl.Board{Rules: fullRules(), Map: plainMap(2, 2)}
	one := []int{0, 1, 2, 3}
	shared.Map.Terrain = one
	for i := range shared.Rules.Terrains {
		shared.Rules.Terrains[i].Cost = one
	}
	shared.Map.Rivers = edgeNumbers(2, 2)
	shared.Map.Roads = shared.Map.Rivers
	for _, b := range []impl.Board{shared, {Rules: fullRules(), Map: variedMap(4, 3)}} {
		kept := copyBoard(b)
		want := mirrorBoardOf(t, b)
		for n := range intListsOf(want) {
			mirror := mirrorBoardOf(t, b)
			overwrite(intListsOf(mirror)[n])
			for k, list := range intListsOf(mirror) {
				if k != n && !slices.Equal(list, intListsOf(want)[k]) {
					t.Fatalf("list %d of the mirror of %v changes with list %d: %v", k, b, n, list)
				}
			}
		}
		if !sameBoard(b, kept) || !sameBoard(mirrorBoardOf(t, b), want) {
			t.Fatalf("the board or its next mirror is changed: %v", b)
		}
	}
}

func TestMirroredBoardsAreNew(t *testing.T) {
	for _, b := range append(variedBoards(), exampleBoard()) {
		kept := copyBoard(b)
		first, second := mirrorBoardOf(t, b), mirrorBoardOf(t, b)
		want := copyBoard(second)
		overwriteBoard(first)
		if !sameBoard(b, kept) || !sameBoard(second, want) || !sameBoard(mirrorBoardOf(t, b), want) {
			t.Fatalf("%v or another mirror of it changes with a mirror", kept)
		}
	}
}

func TestRegionsAreApart(t *testing.T) {
	for _, b := range variedBoards() {
		for kind := range b.Rules.Kinds {
			wantListsApart(t, fmt.Sprint("RegionsOf ", kind, " on ", b.Map), func() [][]int { return regionsOf(t, b, kind) })
		}
	}
}

func TestListsOfBoardsAreNew(t *testing.T) {
	b := impl.Board{Rules: fullRules(), Map: variedMap(2, 2)}
	b.Rules.Kinds[0].Moves = 0
	few := sizedRules(1, 1)
	wantNewLists(t, map[string]func() ([]int, bool){
		"OpenHexes":       func() ([]int, bool) { return impl.OpenHexes(b, 0) },
		"StuckKinds":      func() ([]int, bool) { return impl.StuckKinds(b) },
		"UnusedTerrains":  func() ([]int, bool) { return impl.UnusedTerrains(b) },
		"MissingTerrains": func() ([]int, bool) { return impl.MissingTerrains(few, b.Map) },
	})
}
