package tests

import (
	"slices"
	"testing"

	"loop.example/g00886/impl"
)

func regionsOf(t *testing.T, b impl.Board, kind int) [][]int {
	t.Helper()
	regions, ok := impl.RegionsOf(b, kind)
	if !ok {
		t.Fatalf("RegionsOf kind %d on %v fails", kind, b.Map)
	}
	return regions
}

func TestBoardExample(t *testing.T) {
	b := exampleBoard()
	if open, ok := impl.OpenHexes(b, 0); !ok || !slices.Equal(open, []int{0, 2}) {
		t.Error("OpenHexes:", open, ok)
	}
	if regions := regionsOf(t, b, 0); !sameLists(regions, [][]int{{0}, {2}}) {
		t.Error("RegionsOf:", regions)
	}
	if stuck, ok := impl.StuckKinds(b); !ok || !slices.Equal(stuck, []int{0}) {
		t.Error("StuckKinds:", stuck, ok)
	}
}

func TestIsBoard(t *testing.T) {
	for _, b := range append(variedBoards(), exampleBoard()) {
		if !impl.IsBoard(b) {
			t.Errorf("a board with %v is not valid", b.Map)
		}
	}
	if impl.IsBoard(impl.Board{}) {
		t.Error("an empty board is valid")
	}
}

// Terrain numbers are indices of the terrains, whichever hex has them.
func TestIsBoardTerrain(t *testing.T) {
	for terrains := 1; terrains <= 6; terrains++ {
		for i := range 6 {
			for n := -1; n <= 7; n++ {
				m := plainMap(3, 2)
				m.Terrain[i] = n
				got := impl.IsBoard(impl.Board{Rules: sizedRules(terrains, 2), Map: m})
				if got != (0 <= n && n < terrains) {
					t.Errorf("IsBoard with %d terrains and terrain %d at %d is %v", terrains, n, i, got)
				}
			}
		}
	}
}

func TestEnterCostAndOpenHexes(t *testing.T) {
	for _, b := range variedBoards() {
		for kind := range b.Rules.Kinds {
			var want []int
			for i := range b.Map.Terrain {
				cost, ok := impl.EnterCost(b, kind, i)
				if !ok || cost != costAt(b, kind, i) {
					t.Fatalf("EnterCost of kind %d and %d on %v: %d, %v", kind, i, b.Map, cost, ok)
				}
				if cost != 0 {
					want = append(want, i)
				}
			}
			if open, ok := impl.OpenHexes(b, kind); !ok || !slices.Equal(open, want) {
				t.Fatalf("OpenHexes of kind %d on %v: %v, %v, want %v", kind, b.Map, open, ok, want)
			}
		}
	}
}

// Each row has one terrain: the rows are open for some kinds and not for
// others.
func TestEnterCostExample(t *testing.T) {
	m := impl.Map{Width: 2, Height: 3, Terrain: []int{0, 0, 5, 5, 2, 2}}
	b := impl.Board{Rules: fullRules(), Map: m}
	want := [][]int{{1, 1, 9, 9, 3, 3}, {1, 1, 0, 0, 4, 4}, {0, 0, 9, 9, 0, 0}, {0, 0, 0, 0, 0, 0}}
	for kind, costs := range want {
		for i, cost := range costs {
			if got, ok := impl.EnterCost(b, kind, i); !ok || got != cost {
				t.Errorf("EnterCost of kind %d and %d: %d, %v, want %d", kind, i, got, ok, cost)
			}
		}
	}
}

func TestKindWithoutOpenHexes(t *testing.T) {
	for _, b := range variedBoards() {
		open, ok := impl.OpenHexes(b, 3)
		regions, ok2 := impl.RegionsOf(b, 3)
		if !ok || !ok2 || len(open) != 0 || len(regions) != 0 {
			t.Fatalf("a kind that enters nothing on %v: %v, %v, %v, %v", b.Map, open, ok, regions, ok2)
		}
		stuck, ok := impl.StuckKinds(b)
		if !ok || !slices.Contains(stuck, 3) {
			t.Fatalf("a kind that enters nothing on %v is not stuck: %v, %v", b.Map, stuck, ok)
		}
		for i := range b.Map.Terrain {
			if same, ok := impl.SameRegion(b, 3, i, i); !ok || same {
				t.Fatalf("SameRegion of %d and itself, which is not open: %v, %v", i, same, ok)
			}
		}
	}
}

func TestKindWithOneRegion(t *testing.T) {
	for _, b := range variedBoards() {
		var all []int
		for i := range b.Map.Terrain {
			all = append(all, i)
		}
		if regions := regionsOf(t, b, 0); !sameLists(regions, [][]int{all}) {
			t.Fatalf("a kind that enters everything on %v has the regions %v", b.Map, regions)
		}
	}
}

// The regions of a kind are found at the ends of the map, around closed hexes
// and on both sides of the direction in which no neighbours lie: (0, 0) and
// (1, 1) are no neighbours, (1, 0) and (0, 1) are.
func TestRegionsExamples(t *testing.T) {
	cases := []struct {
		width   int
		height  int
		terrain []int
		want    [][]int
	}{
		{1, 1, []int{0}, [][]int{{0}}},
		{1, 1, []int{1}, nil},
		{2, 2, []int{0, 1, 1, 0}, [][]int{{0}, {3}}},
		{2, 2, []int{1, 0, 0, 1}, [][]int{{1, 2}}},
		{3, 1, []int{1, 0, 0}, [][]int{{1, 2}}},
		{1, 4, []int{0, 0, 1, 0}, [][]int{{0, 1}, {3}}},
		{3, 3, []int{0, 0, 0, 0, 1, 0, 0, 0, 0}, [][]int{{0, 1, 2, 3, 5, 6, 7, 8}}},
		{3, 3, []int{0, 0, 1, 0, 1, 0, 1, 0, 0}, [][]int{{0, 1, 3}, {5, 7, 8}}},
		{3, 3, []int{0, 1, 0, 1, 1, 1, 0, 1, 0}, [][]int{{0}, {2}, {6}, {8}}},
		// The last row joins two columns that begin apart.
		{3, 3, []int{0, 1, 0, 0, 1, 0, 0, 0, 0}, [][]int{{0, 2, 3, 5, 6, 7, 8}}},
		// The region of 4 has lesser elements than its neighbour on the right.
		{4, 2, []int{1, 0, 1, 0, 0, 1, 1, 0}, [][]int{{1, 4}, {3, 7}}},
	}
	for _, c := range cases {
		b := impl.Board{Rules: costRules(1, 1, 0), Map: impl.Map{Width: c.width, Height: c.height, Terrain: c.terrain}}
		if regions := regionsOf(t, b, 0); !sameLists(regions, c.want) {
			t.Errorf("RegionsOf on %v: %v, want %v", b.Map, regions, c.want)
		}
	}
}

// Rivers and roads do not divide or join regions.
func TestRegionsAndEdges(t *testing.T) {
	b := exampleBoard()
	b.Map = impl.Map{Width: 3, Height: 3, Terrain: []int{0, 1, 0, 0, 1, 0, 0, 1, 0}}
	want := regionsOf(t, b, 0)
	b.Map.Rivers, b.Map.Roads = edgeNumbers(3, 3), edgeNumbers(3, 3)
	b.Rules.River = 9
	if regions := regionsOf(t, b, 0); !sameLists(regions, want) || len(want) != 2 {
		t.Errorf("regions %v, without rivers and roads %v", regions, want)
	}
}

// wantRegions compares the regions with those found in another way, and
// SameRegion of all pairs with the regions.
func wantRegions(t *testing.T, b impl.Board, kind int) {
	t.Helper()
	want := regionsBySearch(b, kind)
	if regions := regionsOf(t, b, kind); !sameLists(regions, want) {
		t.Fatalf("RegionsOf kind %d on %v: %v, want %v", kind, b.Map, regions, want)
	}
	at := make([]int, len(b.Map.Terrain))
	for n, region := range want {
		for _, i := range region {
			at[i] = n + 1
		}
	}
	for i := range at {
		for k := range at {
			same, ok := impl.SameRegion(b, kind, i, k)
			if !ok || same != (at[i] > 0 && at[i] == at[k]) {
				t.Fatalf("SameRegion kind %d, %d and %d on %v with the regions %v: %v, %v", kind, i, k, b.Map, want, same, ok)
			}
		}
	}
}

// All small maps are divided into open and closed hexes in all ways.
func TestRegionsOfAllPatterns(t *testing.T) {
	for _, sides := range [][2]int{{1, 1}, {2, 1}, {1, 2}, {5, 1}, {1, 5}, {2, 2}, {3, 2}, {2, 3}, {4, 2}, {2, 4}, {3, 3}} {
		for _, m := range patternMaps(sides[0], sides[1], 2) {
			wantRegions(t, impl.Board{Rules: costRules(1, 0, 3), Map: m}, 0)
		}
	}
}

func TestRegionsOfVariedBoards(t *testing.T) {
	for _, b := range variedBoards() {
		if b.Map.Width == b.Map.Height || b.Map.Width*b.Map.Height < 20 {
			for kind := range b.Rules.Kinds {
				wantRegions(t, b, kind)
			}
		}
	}
}

// Each open hex is in one region, and no other hex is in any.
func TestRegionsAreAllOpenHexes(t *testing.T) {
	for _, b := range variedBoards() {
		for kind := range b.Rules.Kinds {
			open, _ := impl.OpenHexes(b, kind)
			all := slices.Concat(regionsOf(t, b, kind)...)
			slices.Sort(all)
			if !slices.Equal(all, open) {
				t.Fatalf("the regions of kind %d on %v have %v, but %v are open", kind, b.Map, all, open)
			}
			missing, ok := impl.MissingTerrains(b.Rules, b.Map)
			if !ok || len(missing) != 0 {
				t.Fatalf("MissingTerrains of the board %v: %v, %v", b.Map, missing, ok)
			}
		}
	}
}

func TestSameRegionOfClosedHexes(t *testing.T) {
	b := exampleBoard()
	b.Map = impl.Map{Width: 5, Height: 1, Terrain: []int{0, 0, 1, 1, 0}}
	cases := []struct {
		i, k int
		want bool
	}{
		{0, 0, true}, {0, 1, true}, {1, 0, true}, {0, 4, false}, {4, 1, false}, {4, 4, true},
		{1, 2, false}, {2, 1, false}, {3, 4, false}, {4, 3, false}, {2, 3, false}, {3, 2, false}, {2, 2, false},
	}
	for _, c := range cases {
		if same, ok := impl.SameRegion(b, 0, c.i, c.k); !ok || same != c.want {
			t.Errorf("SameRegion of %d and %d: %v, %v, want %v", c.i, c.k, same, ok, c.want)
		}
	}
}

// No result depends on the order in which a map is ranged over, so that each
// call has the answer of the first one.
func TestRegionsAtEveryCall(t *testing.T) {
	b := impl.Board{Rules: costRules(1, 1, 0), Map: plainMap(10, 10)}
	for i := range b.Map.Terrain {
		if i%2 == 1 || i/10%2 == 1 {
			b.Map.Terrain[i] = 1
		}
	}
	var want [][]int
	for i, n := range b.Map.Terrain {
		if n == 0 {
			want = append(want, []int{i})
		}
	}
	for range 200 {
		if regions := regionsOf(t, b, 0); !sameLists(regions, want) {
			t.Fatalf("RegionsOf: %v, want %v", regions, want)
		}
		for _, i := range []int{0, 1, 2, 44, 88, 99} {
			if same, ok := impl.SameRegion(b, 0, 44, i); !ok || same != (i == 44) {
				t.Fatalf("SameRegion of 44 and %d: %v, %v", i, same, ok)
			}
		}
	}
}

func TestStuckWithoutNeighbours(t *testing.T) {
	rules := costRules(9, 1, 0)
	cases := []struct {
		width   int
		height  int
		terrain []int
		stuck   bool
	}{
		{1, 1, []int{0}, true},
		{1, 1, []int{1}, true},
		{2, 1, []int{0, 0}, false},
		{2, 1, []int{0, 1}, true},
		{2, 2, []int{0, 1, 1, 0}, true},
		{2, 2, []int{1, 0, 0, 1}, false},
		{3, 3, []int{0, 1, 0, 1, 1, 1, 0, 1, 0}, true},
		{3, 3, []int{0, 1, 0, 1, 1, 1, 0, 1, 1}, true},
		{3, 3, []int{0, 1, 0, 1, 1, 1, 0, 0, 1}, false},
		{3, 3, []int{1, 1, 1, 1, 1, 1, 1, 1, 1}, true},
	}
	for _, c := range cases {
		b := impl.Board{Rules: rules, Map: impl.Map{Width: c.width, Height: c.height, Terrain: c.terrain}}
		var want []int
		if c.stuck {
			want = []int{0}
		}
		if stuck, ok := impl.StuckKinds(b); !ok || !slices.Equal(stuck, want) {
			t.Errorf("StuckKinds on %v: %v, %v, want %v", b.Map, stuck, ok, want)
		}
	}
}

// The cheap hex in the corner has no open neighbour: the moves have to suffice
// for the other ones.
func TestStuckByMoves(t *testing.T) {
	m := impl.Map{Width: 4, Height: 1, Terrain: []int{0, 3, 1, 2}}
	for moves := range 10 {
		b := impl.Board{Rules: costRules(moves, 1, 4, 6, 0), Map: m}
		var want []int
		if moves < 4 {
			want = []int{0}
		}
		if stuck, ok := impl.StuckKinds(b); !ok || !slices.Equal(stuck, want) {
			t.Errorf("StuckKinds with %d moves: %v, %v, want %v", moves, stuck, ok, want)
		}
	}
}

func TestStuckKindsInOrder(t *testing.T) {
	b := impl.Board{Rules: fullRules(), Map: impl.Map{Width: 3, Height: 1, Terrain: []int{2, 2, 5}}}
	for _, c := range []struct {
		moves []int
		want  []int
	}{
		{[]int{3, 4, 9, 9}, []int{2, 3}},
		{[]int{2, 4, 9, 9}, []int{0, 2, 3}},
		{[]int{3, 3, 9, 9}, []int{1, 2, 3}},
		{[]int{0, 0, 0, 0}, []int{0, 1, 2, 3}},
	} {
		for kind, moves := range c.moves {
			b.Rules.Kinds[kind].Moves = moves
		}
		if stuck, ok := impl.StuckKinds(b); !ok || !slices.Equal(stuck, c.want) {
			t.Errorf("StuckKinds with the moves %v: %v, %v, want %v", c.moves, stuck, ok, c.want)
		}
	}
}

func TestStuckKindsOfAllPatterns(t *testing.T) {
	for _, sides := range [][2]int{{1, 1}, {2, 1}, {1, 2}, {4, 1}, {2, 2}, {3, 2}, {2, 3}} {
		for _, m := range patternMaps(sides[0], sides[1], 3) {
			for moves := range 7 {
				b := impl.Board{Rules: costRules(moves, 2, 0, 5), Map: m}
				if stuck, ok := impl.StuckKinds(b); !ok || !slices.Equal(stuck, stuckBySearch(b)) {
					t.Fatalf("StuckKinds with %d moves on %v: %v, %v", moves, m, stuck, ok)
				}
			}
		}
	}
}

func TestStuckKindsOfVariedBoards(t *testing.T) {
	for _, b := range variedBoards() {
		if stuck, ok := impl.StuckKinds(b); !ok || !slices.Equal(stuck, stuckBySearch(b)) {
			t.Fatalf("StuckKinds on %v: %v, %v, want %v", b.Map, stuck, ok, stuckBySearch(b))
		}
	}
}

func TestUnusedTerrains(t *testing.T) {
	for _, m := range append(variedMaps(), patternMaps(2, 2, 6)...) {
		b := impl.Board{Rules: fullRules(), Map: m}
		var want []int
		for n := range 6 {
			if !slices.Contains(m.Terrain, n) {
				want = append(want, n)
			}
		}
		if unused, ok := impl.UnusedTerrains(b); !ok || !slices.Equal(unused, want) {
			t.Fatalf("UnusedTerrains of %v: %v, %v, want %v", m.Terrain, unused, ok, want)
		}
	}
	if unused, ok := impl.UnusedTerrains(exampleBoard()); !ok || len(unused) != 0 {
		t.Error("UnusedTerrains of the example:", unused, ok)
	}
}

func mirrorBoardOf(t *testing.T, b impl.Board) impl.Board {
	t.Helper()
	mirror, ok := impl.MirrorBoard(b)
	if !ok || !impl.IsBoard(mirror) {
		t.Fatalf("MirrorBoard of %v: %v, %v", b, mirror, ok)
	}
	return mirror
}

func TestMirrorBoard(t *testing.T) {
	for _, b := range append(variedBoards(), exampleBoard()) {
		want := impl.Board{Rules: b.Rules, Map: mirrorOf(t, b.Map)}
		mirror := mirrorBoardOf(t, b)
		if !sameBoard(mirror, want) {
			t.Fatalf("MirrorBoard of %v is %v", b, mirror)
		}
		if twice := mirrorBoardOf(t, mirror); !sameBoard(twice, b) {
			t.Fatalf("%v mirrored twice is %v", b, twice)
		}
	}
}

// A mirror has the regions of the board, in mirrored hexes, and the same kinds
// are stuck.
func TestMirroredRegions(t *testing.T) {
	for _, b := range variedBoards() {
		mirror := mirrorBoardOf(t, b)
		for kind := range b.Rules.Kinds {
			want := regionsOf(t, b, kind)
			for _, region := range want {
				for n, i := range region {
					region[n] = i%b.Map.Width*b.Map.Height + i/b.Map.Width
				}
				slices.Sort(region)
			}
			slices.SortFunc(want, slices.Compare[[]int])
			if regions := regionsOf(t, mirror, kind); !sameLists(regions, want) {
				t.Fatalf("the regions of kind %d on the mirror of %v: %v, want %v", kind, b.Map, regions, want)
			}
		}
		stuck, _ := impl.StuckKinds(b)
		if mirrored, ok := impl.StuckKinds(mirror); !ok || !slices.Equal(mirrored, stuck) {
			t.Fatalf("StuckKinds on the mirror of %v: %v, %v, want %v", b.Map, mirrored, ok, stuck)
		}
	}
}
