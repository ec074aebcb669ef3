package tests

import (
	"slices"

	"loop.example/g00886/impl"
)

// plainMap returns a map with terrain 0 and without rivers and roads.
func plainMap(width, height int) impl.Map {
	return impl.Map{Width: width, Height: height, Terrain: make([]int, width*height)}
}

// variedMap returns a map with all terrains, where there is room for them, and
// with rivers and roads on some edges, chosen by a short rule.
func variedMap(width, height int) impl.Map {
	m := plainMap(width, height)
	for i := range m.Terrain {
		m.Terrain[i] = (i*i + i/3) % impl.MaxTerrains
	}
	for _, e := range edgesBySearch(width, height) {
		if e.number%5 < 2 {
			m.Rivers = append(m.Rivers, e.number)
		}
		if e.number%7 > 3 {
			m.Roads = append(m.Roads, e.number)
		}
	}
	return m
}

func variedMaps() []impl.Map {
	var list []impl.Map
	for width := 1; width <= impl.MaxSide; width++ {
		for height := 1; height <= impl.MaxSide; height++ {
			list = append(list, variedMap(width, height))
		}
	}
	return list
}

type edge struct {
	number int
	from   int
	to     int
}

// edgesBySearch finds the edges of a map by trying all pairs of its hexes.
func edgesBySearch(width, height int) []edge {
	var list []edge
	for i := range width * height {
		for d := range 3 {
			for k := range width * height {
				if hex(k%width, k/width) == sum(hex(i%width, i/width), steps[d]) {
					list = append(list, edge{3*i + d, i, k})
				}
			}
		}
	}
	return list
}

func edgeNumbers(width, height int) []int {
	var list []int
	for _, e := range edgesBySearch(width, height) {
		list = append(list, e.number)
	}
	return list
}

func copyMap(m impl.Map) impl.Map {
	m.Terrain = slices.Clone(m.Terrain)
	m.Rivers = slices.Clone(m.Rivers)
	m.Roads = slices.Clone(m.Roads)
	return m
}

func sameMap(x, y impl.Map) bool {
	return x.Width == y.Width && x.Height == y.Height && slices.Equal(x.Terrain, y.Terrain) &&
		slices.Equal(x.Rivers, y.Rivers) && slices.Equal(x.Roads, y.Roads)
}
