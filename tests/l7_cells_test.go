package tests

import (
	"slices"
	"testing"

	"loop.example/g00886/impl"
)

func TestCellsOfEqualHexesAndNeighbours(t *testing.T) {
	for _, b := range sightBoards() {
		for i := range b.Map.Terrain {
			wantCells(t, b, i, i, nil)
			wantSight(t, b, i, i, impl.SgClear, -1)
			for d := range 6 {
				if k, ok := impl.NextTo(b.Map, i, d); ok {
					wantCells(t, b, i, k, nil)
					wantSight(t, b, i, k, impl.SgClear, -1)
				}
			}
		}
	}
}

// A line in one of the six directions has elements of one hex alone.
func TestCellsInEveryDirection(t *testing.T) {
	b := flatBoard(10, 10)
	for i := range b.Map.Terrain {
		for d := range 6 {
			var passed [][]int
			k, ok := impl.NextTo(b.Map, i, d)
			for ok {
				wantCells(t, b, i, k, passed)
				passed = append(passed, []int{k})
				k, ok = impl.NextTo(b.Map, k, d)
			}
		}
	}
}

// A line halfway between two directions has two hexes in every other element:
// those in both directions, the one with the lesser Q first.
func TestCellsBetweenDirections(t *testing.T) {
	b := flatBoard(5, 5)
	cases := []struct {
		k    int
		pair []int
	}{
		{9, []int{8, 13}}, {6, []int{11, 7}}, {3, []int{7, 8}},
		{15, []int{11, 16}}, {18, []int{17, 13}}, {21, []int{16, 17}},
	}
	for _, c := range cases {
		wantCells(t, b, 12, c.k, [][]int{c.pair})
		wantCells(t, b, c.k, 12, [][]int{c.pair})
	}
	wantCells(t, b, 0, 24, [][]int{{5, 1}, {6}, {11, 7}, {12}, {17, 13}, {18}, {23, 19}})
	wantCells(t, b, 24, 0, [][]int{{23, 19}, {18}, {17, 13}, {12}, {11, 7}, {6}, {5, 1}})
	wantCells(t, b, 10, 4, [][]int{{6, 11}, {7}, {3, 8}})
	wantCells(t, b, 2, 20, [][]int{{6, 7}, {11}, {15, 16}})
}

func TestCellsBetweenOtherHexes(t *testing.T) {
	b := flatBoard(4, 3)
	cases := []struct {
		i, k int
		want [][]int
	}{
		{0, 6, [][]int{{1}, {5}}},
		{0, 7, [][]int{{1}, {5, 2}, {6}}},
		{0, 11, [][]int{{1}, {5}, {6}, {10}}},
		{0, 9, [][]int{{4}, {5}}},
		{0, 10, [][]int{{4, 1}, {5}, {9, 6}}},
		{8, 3, [][]int{{5}, {6}}},
		{3, 4, [][]int{{2}, {5}}},
		{10, 1, [][]int{{6}, {5}}},
		{11, 4, [][]int{{10}, {9, 6}, {5}}},
	}
	for _, c := range cases {
		wantCells(t, b, c.i, c.k, c.want)
	}
}

// Lines from corner to corner, along the borders of the greatest map and across
// it.
func TestCellsAtTheBorders(t *testing.T) {
	b := flatBoard(10, 10)
	var top, bottom, left, right, falling, across [][]int
	for n := range 9 {
		across = append(across, []int{11*n + 10, 11*n + 1})
		if n > 0 {
			top, bottom = append(top, []int{n}), append(bottom, []int{90 + n})
			left, right = append(left, []int{10 * n}), append(right, []int{10*n + 9})
			falling = append(falling, []int{9 + 9*n})
		}
		if n < 8 {
			across = append(across, []int{11*n + 11})
		}
	}
	cases := []struct {
		i, k int
		want [][]int
	}{{0, 9, top}, {90, 99, bottom}, {0, 90, left}, {9, 99, right}, {9, 90, falling}, {0, 99, across}}
	for _, c := range cases {
		wantCells(t, b, c.i, c.k, c.want)
		back := slices.Clone(c.want)
		slices.Reverse(back)
		wantCells(t, b, c.k, c.i, back)
	}
}

// All pairs of hexes of maps of many sizes: the cells are the nearest hexes, all
// of them on the map, and the same ones in the other direction.
func TestCellsOfAllPairs(t *testing.T) {
	for _, sides := range [][2]int{{1, 1}, {1, 10}, {10, 1}, {2, 10}, {10, 2}, {3, 3}, {5, 4}, {7, 10}, {10, 10}} {
		b := flatBoard(sides[0], sides[1])
		for i := range b.Map.Terrain {
			for k := range b.Map.Terrain {
				cells := cellsOf(t, b, i, k)
				if want := cellsBySearch(b, i, k); !sameLists(cells, want) {
					t.Fatalf("SightCells of %d and %d on %v: %v, want %v", i, k, sides, cells, want)
				}
				for _, x := range slices.Concat(cells...) {
					if x < 0 || x >= len(b.Map.Terrain) {
						t.Fatalf("SightCells of %d and %d on %v has %d", i, k, sides, x)
					}
				}
				back := cellsOf(t, b, k, i)
				slices.Reverse(back)
				if !sameLists(cells, back) {
					t.Fatalf("SightCells of %d and %d on %v: %v, and back %v", i, k, sides, cells, back)
				}
			}
		}
	}
}

// Neither terrain nor rivers and roads play a part in where a line passes.
func TestCellsOfAnyTerrain(t *testing.T) {
	varied, plain := impl.Board{Rules: fullRules(), Map: variedMap(6, 5)}, flatBoard(6, 5)
	for i := range plain.Map.Terrain {
		for k := range plain.Map.Terrain {
			wantCells(t, varied, i, k, cellsOf(t, plain, i, k))
		}
	}
}
