package tests

import (
	"fmt"
	"slices"
	"testing"

	"loop.example/g00886/impl"
)

func TestMapLimits(t *testing.T) {
	if impl.MaxSide != 10 || impl.MaxTerrains != 6 {
		t.Error(impl.MaxSide, impl.MaxTerrains)
	}
}

func TestMapExample(t *testing.T) {
	m := plainMap(3, 2)
	m.Rivers = []int{17}
	if i, ok := impl.IndexOf(m, hex(2, 1)); !ok || i != 5 {
		t.Error("IndexOf:", i, ok)
	}
	if k, ok := impl.NextTo(m, 5, 2); !ok || k != 2 {
		t.Error("NextTo:", k, ok)
	}
	if e, ok := impl.EdgeOf(m, 5, 2); !ok || e != 17 {
		t.Error("EdgeOf 5 and 2:", e, ok)
	}
	if e, ok := impl.EdgeOf(m, 2, 5); !ok || e != 17 {
		t.Error("EdgeOf 2 and 5:", e, ok)
	}
	if s, ok := impl.MapText(m); !ok || s != "map 3 2\n000\n000\nrivers 17\nroads\n" {
		t.Errorf("MapText: %q, %v", s, ok)
	}
}

func TestIsMapSides(t *testing.T) {
	for width := range impl.MaxSide + 3 {
		for height := range impl.MaxSide + 3 {
			want := 1 <= width && width <= 10 && 1 <= height && height <= 10
			if got := impl.IsMap(plainMap(width, height)); got != want {
				t.Errorf("IsMap with the sides %d and %d is %v", width, height, got)
			}
		}
	}
}

func TestIsMapTerrainLength(t *testing.T) {
	for _, sides := range [][2]int{{1, 1}, {3, 2}, {10, 10}} {
		m := plainMap(sides[0], sides[1])
		for _, n := range []int{0, len(m.Terrain) - 1, len(m.Terrain) + 1, 2 * len(m.Terrain)} {
			changed := m
			changed.Terrain = make([]int, n)
			if impl.IsMap(changed) {
				t.Errorf("IsMap with the sides %v and %d terrains", sides, n)
			}
		}
	}
}

func TestIsMapTerrainNumbers(t *testing.T) {
	for i := range 6 {
		for n := -2; n <= 8; n++ {
			m := plainMap(3, 2)
			m.Terrain[i] = n
			if got := impl.IsMap(m); got != (n >= 0 && n <= 5) {
				t.Errorf("IsMap with the terrain %d at %d is %v", n, i, got)
			}
		}
	}
}

// Each number is put alone into Rivers and into Roads.
func TestIsMapEdges(t *testing.T) {
	for width := 1; width <= impl.MaxSide; width++ {
		for height := 1; height <= impl.MaxSide; height++ {
			edges := edgeNumbers(width, height)
			for n := -4; n <= 3*width*height+4; n++ {
				rivers, roads := plainMap(width, height), plainMap(width, height)
				rivers.Rivers, roads.Roads = []int{n}, []int{n}
				want := slices.Contains(edges, n)
				if impl.IsMap(rivers) != want || impl.IsMap(roads) != want {
					t.Fatalf("IsMap with the edge %d on %d by %d: %v, %v, want %v",
						n, width, height, impl.IsMap(rivers), impl.IsMap(roads), want)
				}
			}
		}
	}
}

func TestIsMapOrderOfEdges(t *testing.T) {
	cases := []struct {
		list []int
		want bool
	}{
		{nil, true},
		{[]int{}, true},
		{[]int{0}, true},
		{[]int{0, 3}, true},
		{[]int{3, 0}, false},
		{[]int{3, 3}, false},
		{[]int{0, 0}, false},
		{[]int{0, 3, 9, 10, 11, 12, 13, 14, 17}, true},
		{[]int{0, 3, 9, 10, 11, 12, 13, 14, 16, 17}, false},
		{[]int{0, 3, 10, 12, 11}, false},
		{[]int{0, 3, 10, 3}, false},
		{[]int{-1, 0}, false},
		{[]int{0, 17, 18}, false},
	}
	for _, c := range cases {
		rivers, roads := plainMap(3, 2), plainMap(3, 2)
		rivers.Rivers, roads.Roads = c.list, c.list
		if impl.IsMap(rivers) != c.want || impl.IsMap(roads) != c.want {
			t.Errorf("IsMap with the edges %v: %v, %v", c.list, impl.IsMap(rivers), impl.IsMap(roads))
		}
	}
}

func TestIsMapWithAllEdges(t *testing.T) {
	for width := 1; width <= impl.MaxSide; width++ {
		for height := 1; height <= impl.MaxSide; height++ {
			m := plainMap(width, height)
			m.Rivers, m.Roads = edgeNumbers(width, height), edgeNumbers(width, height)
			if !impl.IsMap(m) {
				t.Errorf("a map of %d by %d with rivers and roads everywhere is not valid", width, height)
			}
		}
	}
}

func TestIndicesAndHexes(t *testing.T) {
	for _, m := range variedMaps() {
		for _, h := range hexesWithin(11) {
			i, ok := impl.IndexOf(m, h)
			if h.Q < 0 || h.Q >= m.Width || h.R < 0 || h.R >= m.Height {
				wantZero(t, fmt.Sprint("IndexOf ", h), ok, i)
			} else if !ok || i != h.R*m.Width+h.Q {
				t.Fatalf("IndexOf %v on %d by %d: %d, %v", h, m.Width, m.Height, i, ok)
			}
		}
		for i := -2; i <= len(m.Terrain)+2; i++ {
			h, ok := impl.HexAt(m, i)
			if i < 0 || i >= len(m.Terrain) {
				wantZero(t, fmt.Sprint("HexAt ", i), ok, h)
				continue
			}
			if k, back := impl.IndexOf(m, h); !ok || !back || k != i {
				t.Fatalf("HexAt %d on %d by %d is %v, whose index is %d", i, m.Width, m.Height, h, k)
			}
		}
	}
}

func TestNextTo(t *testing.T) {
	for _, m := range variedMaps() {
		for i := range m.Terrain {
			h := hex(i%m.Width, i/m.Width)
			for d, s := range steps {
				n := sum(h, s)
				k, ok := impl.NextTo(m, i, d)
				if n.Q < 0 || n.Q >= m.Width || n.R < 0 || n.R >= m.Height {
					wantZero(t, fmt.Sprint("NextTo ", i, d), ok, k)
				} else if !ok || k != n.R*m.Width+n.Q {
					t.Fatalf("NextTo %d and %d on %d by %d: %d, %v", i, d, m.Width, m.Height, k, ok)
				}
			}
		}
	}
}

// An edge has one number, by which both of its ends are found.
func TestEdgesFromBothEnds(t *testing.T) {
	for _, m := range variedMaps() {
		for i := range m.Terrain {
			for d := range 6 {
				number, ok := impl.EdgeOf(m, i, d)
				k, there := impl.NextTo(m, i, d)
				if !there {
					wantZero(t, fmt.Sprint("EdgeOf ", i, d), ok, number)
					continue
				}
				back, ok2 := impl.EdgeOf(m, k, (d+3)%6)
				if !ok || !ok2 || number != back {
					t.Fatalf("EdgeOf %d and %d is %d, and from the other end %d", i, d, number, back)
				}
				want := [2]int{i, k}
				if d > 2 {
					want = [2]int{k, i}
				}
				if a, b, ok := impl.EndsOf(m, number); !ok || [2]int{a, b} != want {
					t.Fatalf("EndsOf %d on %d by %d: %d, %d, %v, want %v", number, m.Width, m.Height, a, b, ok, want)
				}
			}
		}
	}
}

func TestEdgeNumbers(t *testing.T) {
	for _, m := range variedMaps() {
		edges := edgesBySearch(m.Width, m.Height)
		for _, e := range edges {
			d := e.number % 3
			if n, ok := impl.EdgeOf(m, e.from, d); !ok || n != e.number {
				t.Fatalf("EdgeOf %d and %d: %d, %v, want %d", e.from, d, n, ok, e.number)
			}
			if n, ok := impl.EdgeOf(m, e.to, d+3); !ok || n != e.number {
				t.Fatalf("EdgeOf %d and %d: %d, %v, want %d", e.to, d+3, n, ok, e.number)
			}
		}
		for n := -4; n <= 3*len(m.Terrain)+4; n++ {
			a, b, ok := impl.EndsOf(m, n)
			k := slices.IndexFunc(edges, func(e edge) bool { return e.number == n })
			if k < 0 {
				wantZero(t, fmt.Sprint("EndsOf ", n), ok, a, b)
			} else if !ok || a != edges[k].from || b != edges[k].to {
				t.Fatalf("EndsOf %d: %d, %d, %v, want %v", n, a, b, ok, edges[k])
			}
		}
	}
}

func TestRiversAndRoads(t *testing.T) {
	for _, m := range variedMaps() {
		for i := range m.Terrain {
			for d := range 6 {
				e, there := impl.EdgeOf(m, i, d)
				river, ok := impl.HasRiver(m, i, d)
				road, ok2 := impl.HasRoad(m, i, d)
				if !there {
					wantZero(t, fmt.Sprint("HasRiver ", i, d), ok, river)
					wantZero(t, fmt.Sprint("HasRoad ", i, d), ok2, road)
					continue
				}
				if !ok || river != slices.Contains(m.Rivers, e) {
					t.Fatalf("HasRiver %d and %d, edge %d of %v: %v, %v", i, d, e, m.Rivers, river, ok)
				}
				if !ok2 || road != slices.Contains(m.Roads, e) {
					t.Fatalf("HasRoad %d and %d, edge %d of %v: %v, %v", i, d, e, m.Roads, road, ok2)
				}
			}
		}
	}
}

func TestRiverAndRoadApart(t *testing.T) {
	m := plainMap(3, 2)
	m.Rivers, m.Roads = []int{17}, []int{3}
	for _, x := range [][2]int{{5, 2}, {2, 5}} {
		river, ok := impl.HasRiver(m, x[0], x[1])
		road, ok2 := impl.HasRoad(m, x[0], x[1])
		if !ok || !ok2 || !river || road {
			t.Error("edge 17:", x, river, ok, road, ok2)
		}
	}
	for _, x := range [][2]int{{1, 0}, {2, 3}} {
		river, ok := impl.HasRiver(m, x[0], x[1])
		road, ok2 := impl.HasRoad(m, x[0], x[1])
		if !ok || !ok2 || river || !road {
			t.Error("edge 3:", x, river, ok, road, ok2)
		}
	}
}

func TestNearOn(t *testing.T) {
	far := distances(20)
	for _, m := range variedMaps() {
		for i := range m.Terrain {
			for radius := range 21 {
				var want []int
				for k := range m.Terrain {
					if far[hex(k%m.Width-i%m.Width, k/m.Width-i/m.Width)] <= radius {
						want = append(want, k)
					}
				}
				if near, ok := impl.NearOn(m, i, radius); !ok || !slices.Equal(near, want) {
					t.Fatalf("NearOn %d and %d on %d by %d: %v, %v, want %v", i, radius, m.Width, m.Height, near, ok, want)
				}
			}
		}
	}
}

func TestNearOnRadius(t *testing.T) {
	m := plainMap(10, 10)
	for radius, want := range map[int]int{0: 1, 1: 3, 17: 99, 18: 100, 19: 100, 20: 100} {
		if near, ok := impl.NearOn(m, 0, radius); !ok || len(near) != want {
			t.Errorf("NearOn with the radius %d has %d hexes, %v, want %d", radius, len(near), ok, want)
		}
	}
	for _, radius := range append([]int{21, 22}, outside...) {
		for _, m := range []impl.Map{m, plainMap(1, 1)} {
			near, ok := impl.NearOn(m, 0, radius)
			wantZero(t, fmt.Sprint("NearOn with the radius ", radius), ok, near)
		}
	}
}

func TestMirrorMapExample(t *testing.T) {
	m := impl.Map{Width: 3, Height: 2, Terrain: []int{0, 1, 2, 3, 4, 5}, Rivers: []int{3, 17}, Roads: []int{0, 10}}
	// Edge 3 lies between (1, 0) and (2, 0), 17 between (2, 1) and (2, 0), 0
	// between (0, 0) and (1, 0), 10 between (0, 1) and (1, 0).
	want := impl.Map{Width: 2, Height: 3, Terrain: []int{0, 3, 1, 4, 2, 5}, Rivers: []int{12, 14}, Roads: []int{7, 8}}
	got, ok := impl.MirrorMap(m)
	if !ok || !sameMap(got, want) {
		t.Errorf("%v, %v, want %v", got, ok, want)
	}
}

func mirrorOf(t *testing.T, m impl.Map) impl.Map {
	t.Helper()
	mirror, ok := impl.MirrorMap(m)
	if !ok || !impl.IsMap(mirror) {
		t.Fatalf("MirrorMap of %v: %v, %v", m, mirror, ok)
	}
	return mirror
}

func TestMirrorMapTwice(t *testing.T) {
	for _, m := range variedMaps() {
		if twice := mirrorOf(t, mirrorOf(t, m)); !sameMap(twice, m) {
			t.Fatalf("%v mirrored twice is %v", m, twice)
		}
	}
}

// Each hex and each edge of a mirror is compared with the corresponding one.
func TestMirrorMapHexByHex(t *testing.T) {
	for _, m := range variedMaps() {
		mirror := mirrorOf(t, m)
		if mirror.Width != m.Height || mirror.Height != m.Width {
			t.Fatalf("%d by %d becomes %d by %d", m.Width, m.Height, mirror.Width, mirror.Height)
		}
		for i := range m.Terrain {
			k := i%m.Width*m.Height + i/m.Width
			if mirror.Terrain[k] != m.Terrain[i] {
				t.Fatalf("the terrain of %d on %v is not that of %d on %v", i, m, k, mirror)
			}
			for d := range 6 {
				river, ok := impl.HasRiver(m, i, d)
				road, _ := impl.HasRoad(m, i, d)
				river2, ok2 := impl.HasRiver(mirror, k, 5-d)
				road2, _ := impl.HasRoad(mirror, k, 5-d)
				if ok != ok2 || river != river2 || road != road2 {
					t.Fatalf("direction %d from %d on %v is not direction %d from %d on %v", d, i, m, 5-d, k, mirror)
				}
			}
		}
		if len(mirror.Rivers) != len(m.Rivers) || len(mirror.Roads) != len(m.Roads) {
			t.Fatalf("the mirror of %v has more or fewer edges: %v", m, mirror)
		}
	}
}
