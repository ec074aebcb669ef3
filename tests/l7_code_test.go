package tests

import (
	"fmt"
	"testing"

	"loop.example/g00886/impl"
)

func TestSightCodes(t *testing.T) {
	if impl.SgClear != 0 || impl.SgTied != 1 || impl.SgBlocked != 2 {
		t.Error(impl.SgClear, impl.SgTied, impl.SgBlocked)
	}
}

// exampleSight returns the board of the document's example, in which plain has
// a height.
func exampleSight(height int) impl.Board {
	b := exampleBoard()
	b.Rules.Terrains = []impl.Terrain{{Name: "plain", Cost: []int{1}, Height: height}, {Name: "wood", Cost: []int{1}, Blocks: true}}
	return b
}

func TestSightExample(t *testing.T) {
	b := exampleSight(0)
	wantBlocks(t, b, 0, 2, 1, true)
	wantSight(t, b, 0, 2, impl.SgBlocked, 0)
	seen, ok := impl.SeenFrom(b, 0, 2)
	wantList(t, "SeenFrom 0", seen, ok, []int{0, 1})
	b = exampleSight(1)
	wantBlocks(t, b, 0, 2, 1, false)
	wantSight(t, b, 0, 2, impl.SgClear, -1)
	seen, ok = impl.SeenFrom(b, 0, 2)
	wantList(t, "SeenFrom 0 from a height", seen, ok, []int{0, 1, 2})
}

// wantBlocks requires the same answer in both directions.
func wantBlocks(t *testing.T, b impl.Board, i, k, x int, want bool) {
	t.Helper()
	for _, ends := range [][2]int{{i, k}, {k, i}} {
		if blocks, ok := impl.BlocksBetween(b, ends[0], ends[1], x); !ok || blocks != want {
			t.Errorf("%d blocks between %d and %d on %v: %v, %v, want %v", x, ends[0], ends[1], b, blocks, ok, want)
		}
	}
}

// groundBoard returns a board of three hexes with three terrains.
func groundBoard(i, x, k impl.Terrain) impl.Board {
	b := impl.Board{Rules: costRules(1, 1, 1, 1), Map: impl.Map{Width: 3, Height: 1, Terrain: []int{0, 1, 2}}}
	for n, ground := range []impl.Terrain{i, x, k} {
		b.Rules.Terrains[n].Height, b.Rules.Terrains[n].Blocks = ground.Height, ground.Blocks
	}
	return b
}

func ground(height int, blocks bool) impl.Terrain {
	return impl.Terrain{Height: height, Blocks: blocks}
}

// The hex between has Blocks or not and is as high as the higher end, one lower
// or one higher.
func TestBlocksByHeight(t *testing.T) {
	cases := []struct {
		i, k, x int
		blocks  bool
		want    bool
	}{
		{1, 1, 0, true, false}, {1, 1, 1, true, true}, {1, 1, 2, true, true},
		{2, 0, 1, true, false}, {2, 0, 2, true, true}, {2, 0, 3, true, true},
		{0, 2, 1, true, false}, {0, 2, 2, true, true}, {0, 2, 3, true, true},
		{2, 1, 1, false, false}, {2, 1, 2, false, false}, {2, 1, 3, false, true},
		{1, 2, 1, false, false}, {1, 2, 2, false, false}, {1, 2, 3, false, true},
		{0, 0, 0, false, false}, {0, 0, 0, true, true}, {0, 0, 1, false, true}, {0, 0, 3, true, true},
		{3, 0, 3, false, false}, {3, 0, 3, true, true}, {0, 3, 2, true, false}, {3, 3, 2, true, false},
	}
	for _, c := range cases {
		b := groundBoard(ground(c.i, false), ground(c.x, c.blocks), ground(c.k, false))
		wantBlocks(t, b, 0, 2, 1, c.want)
		code, first := impl.SgClear, -1
		if c.want {
			code, first = impl.SgBlocked, 0
		}
		wantSight(t, b, 0, 2, code, first)
		wantSight(t, b, 2, 0, code, first)
	}
}

// Every height and Blocks at both ends and between, with each hex as the one
// that may block: Blocks of an end makes it no better lookout.
func TestBlocksOfAllGrounds(t *testing.T) {
	for n := range 8 * 8 * 8 {
		i, x, k := ground(n%4, n/4%2 == 1), ground(n/8%4, n/32%2 == 1), ground(n/64%4, n/256 == 1)
		b := groundBoard(i, x, k)
		for at := range b.Map.Terrain {
			for _, ends := range [][2]int{{0, 2}, {0, 1}, {1, 2}, {0, 0}, {1, 1}, {2, 2}} {
				wantBlocks(t, b, ends[0], ends[1], at, blocksBySearch(b, ends[0], ends[1], at))
			}
		}
		code, first := codeBySearch(b, 0, 2)
		wantSight(t, b, 0, 2, code, first)
		wantSight(t, b, 2, 0, code, first)
	}
}

// An end of a sight blocks it only where it has Blocks and no other end is
// higher; this has no effect on the code.
func TestEndsThatBlock(t *testing.T) {
	cases := []struct {
		i, k  int
		wants [2]bool
	}{
		{flat, flat, [2]bool{false, false}},
		{wood, flat, [2]bool{true, false}},
		{flat, wood, [2]bool{false, true}},
		{wood, wood, [2]bool{true, true}},
		{wood, hill, [2]bool{false, false}},
		{grove, hill, [2]bool{true, false}},
		{hill, grove, [2]bool{false, true}},
		{grove, peak, [2]bool{false, false}},
		{crown, flat, [2]bool{true, false}},
		{flat, peak, [2]bool{false, false}},
	}
	for _, c := range cases {
		b := heightBoard(3, c.i, flat, c.k)
		wantBlocks(t, b, 0, 2, 0, c.wants[0])
		wantBlocks(t, b, 0, 2, 2, c.wants[1])
		wantSight(t, b, 0, 2, impl.SgClear, -1)
		wantSight(t, b, 2, 0, impl.SgClear, -1)
	}
	one := heightBoard(2, wood, hill)
	wantBlocks(t, one, 0, 0, 0, true)
	wantBlocks(t, one, 1, 1, 1, false)
	wantBlocks(t, one, 0, 0, 1, true)
	wantBlocks(t, one, 1, 1, 0, false)
}

// A hex need not lie between two others to block the sight between them.
func TestBlocksOfHexesElsewhere(t *testing.T) {
	b := heightBoard(4, flat, flat, flat, wood, hill, flat, flat, flat)
	for x, want := range []bool{false, false, false, true, true, false, false, false} {
		wantBlocks(t, b, 0, 1, x, want)
		wantBlocks(t, b, 7, 2, x, want)
		wantBlocks(t, b, 4, 1, x, false)
	}
}

// The two hexes on the border: none, the first, the second or both block.
func TestSightCodeOnABorder(t *testing.T) {
	cases := []struct {
		width, height int
		i, k          int
		first, second int
	}{{2, 2, 0, 3, 2, 1}, {3, 2, 3, 2, 1, 4}, {2, 3, 1, 4, 2, 3}}
	for _, c := range cases {
		for _, woods := range []struct {
			list        []int
			code, first int
		}{
			{nil, impl.SgClear, -1},
			{[]int{c.first}, impl.SgTied, -1},
			{[]int{c.second}, impl.SgTied, -1},
			{[]int{c.first, c.second}, impl.SgBlocked, 0},
		} {
			b := flatBoard(c.width, c.height, woods.list...)
			wantSight(t, b, c.i, c.k, woods.code, woods.first)
			wantSight(t, b, c.k, c.i, woods.code, woods.first)
		}
	}
}

// The line from corner to corner of a square has two hexes, 3 and 1, then 4,
// then two hexes, 7 and 5.
func TestSightCodeAcross(t *testing.T) {
	cases := []struct {
		woods       []int
		code        int
		first, back int
	}{
		{nil, impl.SgClear, -1, -1},
		{[]int{0, 2, 6, 8}, impl.SgClear, -1, -1},
		{[]int{3}, impl.SgTied, -1, -1},
		{[]int{1}, impl.SgTied, -1, -1},
		{[]int{7}, impl.SgTied, -1, -1},
		{[]int{5}, impl.SgTied, -1, -1},
		{[]int{3, 7}, impl.SgTied, -1, -1},
		{[]int{3, 5}, impl.SgTied, -1, -1},
		{[]int{1, 7}, impl.SgTied, -1, -1},
		{[]int{1, 5}, impl.SgTied, -1, -1},
		{[]int{4}, impl.SgBlocked, 1, 1},
		{[]int{3, 4}, impl.SgBlocked, 1, 1},
		{[]int{4, 5}, impl.SgBlocked, 1, 1},
		{[]int{1, 4, 7}, impl.SgBlocked, 1, 1},
		{[]int{1, 3}, impl.SgBlocked, 0, 2},
		{[]int{1, 3, 7}, impl.SgBlocked, 0, 2},
		{[]int{5, 7}, impl.SgBlocked, 2, 0},
		{[]int{3, 5, 7}, impl.SgBlocked, 2, 0},
		{[]int{1, 3, 4}, impl.SgBlocked, 0, 1},
		{[]int{4, 5, 7}, impl.SgBlocked, 1, 0},
		{[]int{1, 3, 5, 7}, impl.SgBlocked, 0, 0},
	}
	for _, c := range cases {
		b := flatBoard(3, 3, c.woods...)
		wantSight(t, b, 0, 8, c.code, c.first)
		wantSight(t, b, 8, 0, c.code, c.back)
	}
}

// On a line of single hexes, the first block from an end is the wood that is
// nearest to it.
func TestFirstBlockFromBothEnds(t *testing.T) {
	for first := 1; first <= 8; first++ {
		for last := first; last <= 8; last++ {
			b := flatBoard(10, 1, first, last)
			wantSight(t, b, 0, 9, impl.SgBlocked, first-1)
			wantSight(t, b, 9, 0, impl.SgBlocked, 8-last)
		}
	}
}

func TestNoFirstBlock(t *testing.T) {
	wantSight(t, flatBoard(10, 1), 0, 9, impl.SgClear, -1)
	// Lines whose ends alone have Blocks, and one beside which there are woods.
	wantSight(t, flatBoard(10, 1, 0, 9), 0, 9, impl.SgClear, -1)
	wantSight(t, flatBoard(3, 3, 0, 1, 2, 6, 7, 8), 3, 5, impl.SgClear, -1)
	var one, other []int
	for n := range 9 {
		one, other = append(one, 11*n+1), append(other, 11*n+10)
	}
	for _, woods := range [][]int{one, other} {
		wantSight(t, flatBoard(10, 10, woods...), 0, 99, impl.SgTied, -1)
		wantSight(t, flatBoard(10, 10, woods...), 99, 0, impl.SgTied, -1)
	}
	wantSight(t, flatBoard(10, 10, append(one, other[8])...), 0, 99, impl.SgBlocked, 16)
	wantSight(t, flatBoard(10, 10, append(one, other[8])...), 99, 0, impl.SgBlocked, 0)
}

// wantAllSights compares all pairs of hexes of a board with a word-by-word
// reading of the definition, in both directions.
func wantAllSights(t *testing.T, b impl.Board) {
	t.Helper()
	for i := range b.Map.Terrain {
		for k := range b.Map.Terrain {
			code, first := codeBySearch(b, i, k)
			wantSight(t, b, i, k, code, first)
			back, ok := impl.SightCode(b, k, i)
			wantNumber(t, fmt.Sprint("SightCode of ", k, " and ", i, " on ", b.Map), back, ok, code)
		}
	}
}

// All small maps have each of the terrains in each hex.
func TestSightOfAllPatterns(t *testing.T) {
	for _, sides := range [][3]int{{3, 1, 6}, {1, 3, 6}, {4, 1, 4}, {2, 2, 6}, {3, 2, 3}, {2, 3, 3}, {3, 3, 2}} {
		for _, m := range patternMaps(sides[0], sides[1], sides[2]) {
			wantAllSights(t, impl.Board{Rules: heightRules(1), Map: m})
		}
	}
}

func TestSightOfAllBoards(t *testing.T) {
	for _, b := range sightBoards() {
		wantAllSights(t, b)
		for i := range b.Map.Terrain {
			k := len(b.Map.Terrain) - 1 - i
			for x := range b.Map.Terrain {
				wantBlocks(t, b, i, k, x, blocksBySearch(b, i, k, x))
			}
		}
	}
}

// A mirror has the sights of the board between mirrored hexes.
func TestMirroredSight(t *testing.T) {
	for _, b := range sightBoards() {
		mirror := mirrorBoardOf(t, b)
		mirrored := func(i int) int { return i%b.Map.Width*b.Map.Height + i/b.Map.Width }
		for i := range b.Map.Terrain {
			for k := range b.Map.Terrain {
				code, first := codeBySearch(b, i, k)
				wantSight(t, mirror, mirrored(i), mirrored(k), code, first)
			}
		}
	}
}
