package tests

import (
	"fmt"
	"math"
	"slices"
	"testing"

	"loop.example/g00886/impl"
)

func invalidMaps() []impl.Map {
	list := []impl.Map{
		{},
		{Terrain: []int{0}},
		{Width: 1, Height: 1},
		{Width: -1, Height: -1, Terrain: []int{0}},
		{Width: math.MinInt, Height: math.MinInt},
		{Width: math.MaxInt, Height: math.MaxInt, Terrain: []int{0}},
		// These products of the sides wrap around to 0 and to 4.
		{Width: 1 << 32, Height: 1 << 32},
		{Width: 1<<62 + 1, Height: 4, Terrain: make([]int, 4)},
		{Width: 4, Height: 1<<62 + 1, Terrain: make([]int, 4)},
		plainMap(11, 1), plainMap(1, 11), plainMap(11, 11), plainMap(0, 5), plainMap(5, 0),
	}
	for _, n := range append([]int{6, 7}, outside...) {
		m := plainMap(3, 2)
		m.Terrain[4] = n
		list = append(list, m)
	}
	for _, edges := range [][]int{{-3}, {-1}, {1}, {6}, {16}, {18}, {0, 0}, {3, 0}, {0, 3, 3}, {math.MinInt}, {math.MaxInt},
		{math.MinInt + 1, 0}, {0, math.MaxInt - 1}} {
		rivers, roads := plainMap(3, 2), plainMap(3, 2)
		rivers.Rivers, roads.Roads = edges, edges
		list = append(list, rivers, roads)
	}
	short, long := plainMap(3, 2), plainMap(3, 2)
	short.Terrain, long.Terrain = make([]int, 5), make([]int, 7)
	return append(list, short, long)
}

func TestInvalidMaps(t *testing.T) {
	for _, m := range invalidMaps() {
		if impl.IsMap(m) {
			t.Errorf("IsMap(%v)", m)
		}
		mirror, ok := impl.MirrorMap(m)
		wantZero(t, fmt.Sprint("MirrorMap of ", m), ok, mirror)
		text, ok := impl.MapText(m)
		wantZero(t, fmt.Sprint("MapText of ", m), ok, text)
		i, ok := impl.IndexOf(m, hex(0, 0))
		wantZero(t, fmt.Sprint("IndexOf on ", m), ok, i)
		for i := -1; i <= 4; i++ {
			wantIndexFails(t, m, i)
			a, b, ok := impl.EndsOf(m, i)
			wantZero(t, fmt.Sprint("EndsOf ", i, " on ", m), ok, a, b)
		}
	}
}

// wantIndexFails requires every function with an index to fail.
func wantIndexFails(t *testing.T, m impl.Map, i int) {
	t.Helper()
	h, ok := impl.HexAt(m, i)
	wantZero(t, fmt.Sprint("HexAt ", i, " on ", m), ok, h)
	for d := range 6 {
		wantStepFails(t, m, i, d)
	}
	for radius := range 21 {
		near, ok := impl.NearOn(m, i, radius)
		wantZero(t, fmt.Sprint("NearOn ", i, radius, " on ", m), ok, near)
	}
}

// wantStepFails requires every function with an index and a direction to fail.
func wantStepFails(t *testing.T, m impl.Map, i, d int) {
	t.Helper()
	k, ok := impl.NextTo(m, i, d)
	wantZero(t, fmt.Sprint("NextTo ", i, d, " on ", m), ok, k)
	e, ok := impl.EdgeOf(m, i, d)
	wantZero(t, fmt.Sprint("EdgeOf ", i, d, " on ", m), ok, e)
	river, ok := impl.HasRiver(m, i, d)
	wantZero(t, fmt.Sprint("HasRiver ", i, d, " on ", m), ok, river)
	road, ok := impl.HasRoad(m, i, d)
	wantZero(t, fmt.Sprint("HasRoad ", i, d, " on ", m), ok, road)
}

func TestInvalidIndices(t *testing.T) {
	for _, m := range []impl.Map{variedMap(1, 1), variedMap(3, 2), variedMap(10, 10)} {
		n := len(m.Terrain)
		for _, i := range append([]int{n, n + 1, -n, math.MaxInt / 3, math.MinInt / 3}, outside...) {
			wantIndexFails(t, m, i)
		}
	}
}

func TestInvalidMapDirections(t *testing.T) {
	m := variedMap(3, 3)
	for _, d := range append([]int{6, 7, -2, -3}, outside...) {
		for i := range m.Terrain {
			wantStepFails(t, m, i, d)
		}
	}
}

func TestInvalidEdges(t *testing.T) {
	for _, m := range []impl.Map{variedMap(1, 1), variedMap(3, 2), variedMap(10, 10)} {
		n := 3 * len(m.Terrain)
		for _, e := range append([]int{n, n + 1, -2, -3, -n}, outside...) {
			a, b, ok := impl.EndsOf(m, e)
			wantZero(t, fmt.Sprint("EndsOf ", e), ok, a, b)
		}
	}
}

func TestHexesOffTheMap(t *testing.T) {
	for _, m := range []impl.Map{variedMap(1, 1), variedMap(3, 2), variedMap(10, 10)} {
		for _, h := range append(extremeHexes(true), extremeHexes(false)...) {
			if h == hex(0, 0) {
				continue
			}
			i, ok := impl.IndexOf(m, h)
			wantZero(t, fmt.Sprint("IndexOf ", h), ok, i)
		}
	}
}

// withSpare returns a map whose slices have spare capacity, and the slices with
// what lies behind them.
func withSpare(m impl.Map) (impl.Map, [][]int) {
	spare := []int{77, 0, 1, 2}
	whole := [][]int{slices.Concat(m.Terrain, spare), slices.Concat(m.Rivers, spare), slices.Concat(m.Roads, spare)}
	m.Terrain = whole[0][:len(m.Terrain)]
	m.Rivers = whole[1][:len(m.Rivers)]
	m.Roads = whole[2][:len(m.Roads)]
	return m, whole
}

// callAll calls every function of the chapter, and overwrites and extends the
// results.
func callAll(m impl.Map) {
	impl.IsMap(m)
	for i := -1; i <= len(m.Terrain); i++ {
		impl.HexAt(m, i)
		impl.IndexOf(m, hex(i, 1))
		impl.EndsOf(m, 3*i)
		for d := -1; d <= 6; d++ {
			impl.NextTo(m, i, d)
			impl.EdgeOf(m, i, d)
			impl.HasRiver(m, i, d)
			impl.HasRoad(m, i, d)
			near, _ := impl.NearOn(m, i, d)
			overwrite(near)
		}
	}
	mirror, _ := impl.MirrorMap(m)
	text, _ := impl.MapText(m)
	read, _ := impl.ParseMap(text)
	for _, x := range []impl.Map{mirror, read} {
		overwrite(x.Terrain)
		overwrite(x.Rivers)
		overwrite(x.Roads)
	}
}

// overwrite changes the elements of a slice and what lies behind them.
func overwrite(list []int) {
	list = list[:cap(list)]
	for i := range list {
		list[i] = -99
	}
}

func TestMapsAreNotChanged(t *testing.T) {
	for _, m := range append(variedMaps(), invalidMaps()...) {
		given, whole := withSpare(m)
		kept := [][]int{slices.Clone(whole[0]), slices.Clone(whole[1]), slices.Clone(whole[2])}
		callAll(given)
		if !sameMap(given, m) || !slices.EqualFunc(whole, kept, slices.Equal) {
			t.Fatalf("%v is changed: %v, want %v", m, whole, kept)
		}
	}
}

// What lies behind the slices of a map plays no part in a result.
func TestSpareCapacityOfMapsIsNotRead(t *testing.T) {
	for _, m := range variedMaps() {
		given, _ := withSpare(m)
		if !impl.IsMap(given) || textOf(t, given) != textOf(t, m) || !sameMap(mirrorOf(t, given), mirrorOf(t, m)) {
			t.Fatalf("%v with spare capacity is another map", m)
		}
	}
}

// wantApart overwrites and extends the slices of a map one by one: the others
// stay as they are.
func wantApart(t *testing.T, m impl.Map) {
	t.Helper()
	kept := copyMap(m)
	overwrite(m.Terrain)
	if !slices.Equal(m.Rivers, kept.Rivers) || !slices.Equal(m.Roads, kept.Roads) {
		t.Fatalf("rivers or roads change with the terrain of %v", kept)
	}
	overwrite(m.Rivers)
	if !slices.Equal(m.Roads, kept.Roads) {
		t.Fatalf("the roads of %v change with its rivers", kept)
	}
	overwrite(m.Roads)
	if slices.ContainsFunc(m.Rivers, func(n int) bool { return n != -99 }) {
		t.Fatalf("the rivers of %v change with its roads", kept)
	}
}

func TestMapsOfResultsAreNew(t *testing.T) {
	for _, m := range variedMaps() {
		text, mirror := textOf(t, m), mirrorOf(t, m)
		wantApart(t, mirrorOf(t, m))
		if again := mirrorOf(t, m); !sameMap(again, mirror) {
			t.Fatalf("the next mirror of %v is %v, want %v", m, again, mirror)
		}
		read, _ := impl.ParseMap(text)
		wantApart(t, read)
		if again, ok := impl.ParseMap(text); !ok || !sameMap(again, m) {
			t.Fatalf("%q is read as %v the next time", text, again)
		}
	}
}

// A map with the same rivers and roads does not get one list for both.
func TestEqualListsAreApart(t *testing.T) {
	m := plainMap(4, 4)
	m.Rivers = edgeNumbers(4, 4)
	m.Roads = m.Rivers
	wantApart(t, mirrorOf(t, m))
	read, _ := impl.ParseMap(textOf(t, m))
	wantApart(t, read)
	if !slices.Equal(m.Rivers, edgeNumbers(4, 4)) {
		t.Error("the map itself is changed")
	}
}

func TestNearbyIndicesAreNew(t *testing.T) {
	m := variedMap(5, 4)
	for radius := range 21 {
		first, _ := impl.NearOn(m, 7, radius)
		kept := slices.Clone(first)
		overwrite(first)
		if next, ok := impl.NearOn(m, 7, radius); !ok || !slices.Equal(next, kept) {
			t.Errorf("NearOn returns %v after its first result was overwritten, want %v", next, kept)
		}
	}
}
