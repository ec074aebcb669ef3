package tests

import (
	"fmt"
	"math/rand"
	"slices"
	"testing"

	"loop.example/g00886/impl"
)

// The terrains of heightRules by what they do between two flats: a wood and a
// hill block there, and a grove, a wood on a hill, also between two hills.
const (
	flat = iota
	wood
	hill
	grove
	peak
	crown
)

// heightRules returns rules with one kind that enters everything. The terrain n
// has the Height n/2, and Blocks if n is odd.
func heightRules(view int) impl.Rules {
	r := costRules(1, 1, 1, 1, 1, 1, 1)
	for n := range r.Terrains {
		r.Terrains[n].Height, r.Terrains[n].Blocks = n/2, n%2 == 1
	}
	r.Kinds[0].View = view
	return r
}

func heightBoard(width int, terrain ...int) impl.Board {
	m := impl.Map{Width: width, Height: len(terrain) / width, Terrain: terrain}
	return impl.Board{Rules: heightRules(2), Map: m}
}

// flatBoard returns a board that is flat but for the woods with the given
// indices.
func flatBoard(width, height int, woods ...int) impl.Board {
	b := heightBoard(width, make([]int, width*height)...)
	for _, x := range woods {
		b.Map.Terrain[x] = wood
	}
	return b
}

// drawnHeights returns a board of any size with any heights, blocks and views.
func drawnHeights(random *rand.Rand) impl.Board {
	b := drawnBoard(random)
	for n := range b.Rules.Terrains {
		b.Rules.Terrains[n].Height, b.Rules.Terrains[n].Blocks = random.Intn(4), random.Intn(2) == 0
	}
	for n := range b.Rules.Kinds {
		b.Rules.Kinds[n].View = random.Intn(5)
	}
	return b
}

// sightBoards returns the boards of the examples, some of all sizes, and drawn
// ones.
func sightBoards() []impl.Board {
	list := []impl.Board{exampleBoard(), campBoard(), {Rules: fullRules(), Map: variedMap(10, 10)}}
	for _, m := range variedMaps() {
		if len(m.Terrain)%4 == 0 && len(m.Terrain) < 50 {
			list = append(list, impl.Board{Rules: fullRules(), Map: m})
		}
	}
	random := rand.New(rand.NewSource(7))
	for range 40 {
		list = append(list, drawnHeights(random))
	}
	return list
}

func hexOf(b impl.Board, i int) impl.Hex {
	return hex(i%b.Map.Width, i/b.Map.Width)
}

// farBySearch returns the distance of two hexes as the greatest of the changes
// of Q, of R and of their sum: each step changes two of the three by one.
func farBySearch(b impl.Board, i, k int) int {
	q, r := hexOf(b, k).Q-hexOf(b, i).Q, hexOf(b, k).R-hexOf(b, i).R
	return max(q, -q, r, -r, q+r, -q-r)
}

// cellsBySearch finds the hexes that are nearest in the plane.
func cellsBySearch(b impl.Board, i, k int) [][]int {
	from, to, n := hexOf(b, i), hexOf(b, k), farBySearch(b, i, k)
	var cells [][]int
	for step := 1; step < n; step++ {
		var cell []int
		for _, h := range nearestHexes(from.Q*n+step*(to.Q-from.Q), from.R*n+step*(to.R-from.R), n) {
			cell = append(cell, h.R*b.Map.Width+h.Q)
		}
		cells = append(cells, cell)
	}
	return cells
}

func blocksBySearch(b impl.Board, i, k, x int) bool {
	terrain := func(n int) impl.Terrain { return b.Rules.Terrains[b.Map.Terrain[n]] }
	height := terrain(x).Height
	if terrain(x).Blocks {
		height++
	}
	return height > terrain(i).Height && height > terrain(k).Height
}

// codeBySearch returns the code of a sight and the index of the first cell all
// of whose hexes block, or -1.
func codeBySearch(b impl.Board, i, k int) (int, int) {
	code := impl.SgClear
	for n, cell := range cellsBySearch(b, i, k) {
		blocking := 0
		for _, x := range cell {
			if blocksBySearch(b, i, k, x) {
				blocking++
			}
		}
		if blocking == len(cell) {
			return impl.SgBlocked, n
		}
		if blocking == 1 {
			code = impl.SgTied
		}
	}
	return code, -1
}

// seenBySearch returns the hexes within a range for which the code is one of
// the given ones.
func seenBySearch(b impl.Board, i, far int, codes ...int) []int {
	var seen []int
	for k := range b.Map.Terrain {
		code, _ := codeBySearch(b, i, k)
		if farBySearch(b, i, k) <= far && slices.Contains(codes, code) {
			seen = append(seen, k)
		}
	}
	return seen
}

func cellsOf(t *testing.T, b impl.Board, i, k int) [][]int {
	t.Helper()
	cells, ok := impl.SightCells(b, i, k)
	if !ok {
		t.Fatalf("SightCells of %d and %d on %v fails", i, k, b.Map)
	}
	return cells
}

func wantCells(t *testing.T, b impl.Board, i, k int, want [][]int) {
	t.Helper()
	if cells := cellsOf(t, b, i, k); !sameLists(cells, want) {
		t.Errorf("SightCells of %d and %d on %v: %v, want %v", i, k, b.Map, cells, want)
	}
}

// wantSight requires a code and the index of the first cell that blocks, or -1
// if FirstBlock has to fail.
func wantSight(t *testing.T, b impl.Board, i, k, code, first int) {
	t.Helper()
	what := fmt.Sprint(" of ", i, " and ", k, " on ", b.Map)
	n, ok := impl.SightCode(b, i, k)
	wantNumber(t, "SightCode"+what, n, ok, code)
	n, ok = impl.FirstBlock(b, i, k)
	if first < 0 {
		wantZero(t, "FirstBlock"+what, ok, n)
	} else {
		wantNumber(t, "FirstBlock"+what, n, ok, first)
	}
}

func seenFrom(t *testing.T, b impl.Board, i, far int) []int {
	t.Helper()
	seen, ok := impl.SeenFrom(b, i, far)
	if !ok {
		t.Fatalf("SeenFrom %d with range %d on %v fails", i, far, b.Map)
	}
	return seen
}

func clearFrom(t *testing.T, b impl.Board, i, far int) []int {
	t.Helper()
	clear, ok := impl.ClearFrom(b, i, far)
	if !ok {
		t.Fatalf("ClearFrom %d with range %d on %v fails", i, far, b.Map)
	}
	return clear
}

func seenByKind(t *testing.T, b impl.Board, kind, i int) []int {
	t.Helper()
	seen, ok := impl.SeenBy(b, kind, i)
	if !ok {
		t.Fatalf("SeenBy kind %d in %d on %v fails", kind, i, b.Map)
	}
	return seen
}
