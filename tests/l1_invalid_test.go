package tests

import (
	"fmt"
	"math"
	"slices"
	"testing"

	"loop.example/g00886/impl"
)

// extremes are coordinates inside the limits, just outside and far outside.
var extremes = []int{math.MinInt, math.MinInt + 1, -41, -40, 0, 40, 41, math.MaxInt - 1, math.MaxInt}

// outside are numbers that are no direction, radius or number of turns.
var outside = []int{math.MinInt, math.MinInt + 1, -1, math.MaxInt - 1, math.MaxInt}

func extremeHexes(valid bool) []impl.Hex {
	var list []impl.Hex
	for _, q := range extremes {
		for _, r := range extremes {
			if h := hex(q, r); inLimits(h) == valid {
				list = append(list, h)
			}
		}
	}
	return list
}

func TestInvalidHexes(t *testing.T) {
	for _, bad := range extremeHexes(false) {
		if impl.IsHex(bad) {
			t.Errorf("IsHex(%v)", bad)
		}
		for d := range 6 {
			h, ok := impl.NeighbourOf(bad, d)
			wantZero(t, fmt.Sprint("NeighbourOf ", bad, d), ok, h)
		}
		for _, path := range [][]int{nil, {0}, {3, 3}} {
			walk, ok := impl.WalkFrom(bad, path)
			wantZero(t, fmt.Sprint("WalkFrom ", bad, path), ok, walk)
		}
		for radius := range impl.MaxRadius + 1 {
			ring, ok := impl.RingOf(bad, radius)
			wantZero(t, fmt.Sprint("RingOf ", bad, radius), ok, ring)
			disk, ok := impl.DiskOf(bad, radius)
			wantZero(t, fmt.Sprint("DiskOf ", bad, radius), ok, disk)
		}
	}
}

func wantPairFails(t *testing.T, a, b impl.Hex) {
	t.Helper()
	n, ok := impl.DistanceOf(a, b)
	wantZero(t, fmt.Sprint("DistanceOf ", a, b), ok, n)
	d, ok := impl.DirectionTo(a, b)
	wantZero(t, fmt.Sprint("DirectionTo ", a, b), ok, d)
	line, ok := impl.LineOf(a, b)
	wantZero(t, fmt.Sprint("LineOf ", a, b), ok, line)
	h, ok := impl.MirrorHex(a, b)
	wantZero(t, fmt.Sprint("MirrorHex ", a, b), ok, h)
	for k := range 6 {
		h, ok := impl.TurnHex(a, b, k)
		wantZero(t, fmt.Sprint("TurnHex ", a, b, k), ok, h)
	}
}

func TestInvalidPairsOfHexes(t *testing.T) {
	for _, bad := range extremeHexes(false) {
		for _, good := range append(extremeHexes(true), hex(39, 0), hex(0, -39)) {
			wantPairFails(t, bad, good)
			wantPairFails(t, good, bad)
		}
		for _, other := range extremeHexes(false) {
			wantPairFails(t, bad, other)
		}
	}
}

func TestNeighboursBeyondTheLimits(t *testing.T) {
	d, ok := impl.DirectionTo(hex(40, 0), hex(41, 0))
	wantZero(t, "DirectionTo across the limit", ok, d)
	d, ok = impl.DirectionTo(hex(41, 0), hex(40, 0))
	wantZero(t, "DirectionTo across the limit", ok, d)
}

func TestInvalidDirections(t *testing.T) {
	for _, d := range append([]int{6, 7}, outside...) {
		h, ok := impl.NeighbourOf(hex(1, 1), d)
		wantZero(t, fmt.Sprint("NeighbourOf in direction ", d), ok, h)
		for _, path := range [][]int{{d}, {d, 0}, {0, 1, d}} {
			walk, ok := impl.WalkFrom(hex(1, 1), path)
			wantZero(t, fmt.Sprint("WalkFrom by ", path), ok, walk)
		}
	}
}

func TestInvalidRadii(t *testing.T) {
	for _, radius := range append([]int{7, 8}, outside...) {
		ring, ok := impl.RingOf(hex(1, 1), radius)
		wantZero(t, fmt.Sprint("RingOf with radius ", radius), ok, ring)
		disk, ok := impl.DiskOf(hex(1, 1), radius)
		wantZero(t, fmt.Sprint("DiskOf with radius ", radius), ok, disk)
	}
}

func TestInvalidTurns(t *testing.T) {
	for _, k := range append([]int{6, 7, 12}, outside...) {
		h, ok := impl.TurnHex(hex(2, 1), hex(1, 1), k)
		wantZero(t, fmt.Sprint("TurnHex by ", k), ok, h)
		h, ok = impl.TurnHex(hex(1, 1), hex(1, 1), k)
		wantZero(t, fmt.Sprint("TurnHex of the centre by ", k), ok, h)
	}
}

func TestInvalidLists(t *testing.T) {
	for _, list := range [][]impl.Hex{nil, {}} {
		i, ok := impl.NearestAlong(list, hex(0, 0))
		wantZero(t, "NearestAlong of no hexes", ok, i)
	}
	for _, bad := range extremeHexes(false) {
		for _, list := range [][]impl.Hex{{bad}, {bad, hex(0, 0)}, {hex(9, 9), hex(0, 0), bad}} {
			i, ok := impl.NearestAlong(list, hex(0, 0))
			wantZero(t, fmt.Sprint("NearestAlong of ", list), ok, i)
		}
		i, ok := impl.NearestAlong([]impl.Hex{hex(9, 9), hex(0, 0)}, bad)
		wantZero(t, fmt.Sprint("NearestAlong for ", bad), ok, i)
	}
	i, ok := impl.NearestAlong(make([]impl.Hex, 61), hex(0, 0))
	wantZero(t, "NearestAlong of 61 hexes", ok, i)
}

// A path of valid, invalid and missing steps is left as it was, with the spare
// capacity behind it.
func TestPathsAreNotChanged(t *testing.T) {
	for _, whole := range [][]int{{0, 1, 2, 3, 4, 5, 9, 9}, {0, -1, 7, 3, 4, 5, 9, 9}, make([]int, 70)} {
		for n := range len(whole) + 1 {
			kept := slices.Clone(whole)
			walk, _ := impl.WalkFrom(hex(0, 0), whole[:n])
			for i := range walk {
				walk[i] = hex(77, 77)
			}
			if !slices.Equal(whole, kept) {
				t.Fatalf("the path %v is changed to %v", kept, whole)
			}
		}
	}
}

func TestListsAreNotChanged(t *testing.T) {
	whole := append(hexesWithin(3), hexesWithin(3)...)
	whole[20] = hex(99, 0)
	for n := range len(whole) + 1 {
		kept := slices.Clone(whole)
		impl.NearestAlong(whole[:n], hex(3, 3))
		if !slices.Equal(whole, kept) {
			t.Fatalf("a list of %d hexes is changed", n)
		}
	}
}

// What lies behind the length of a slice plays no part in a result.
func TestSpareCapacityIsNotRead(t *testing.T) {
	path := []int{0, 0, 9, 9}[:2]
	if walk, ok := impl.WalkFrom(hex(0, 0), path); !ok || len(walk) != 2 {
		t.Error("path:", walk, ok)
	}
	list := []impl.Hex{hex(3, 3), hex(2, 2), hex(0, 0), hex(99, 99)}[:2]
	if i, ok := impl.NearestAlong(list, hex(0, 0)); !ok || i != 1 {
		t.Error("list:", i, ok)
	}
}

// Writing to a result, or appending to a slice of it, changes neither another
// slice of it nor the result of the next call.
func TestResultsAreNew(t *testing.T) {
	calls := []func() []impl.Hex{
		func() []impl.Hex { r, _ := impl.WalkFrom(hex(0, 0), []int{0, 1, 2}); return r },
		func() []impl.Hex { r, _ := impl.RingOf(hex(0, 0), 0); return r },
		func() []impl.Hex { r, _ := impl.RingOf(hex(0, 0), 2); return r },
		func() []impl.Hex { r, _ := impl.DiskOf(hex(0, 0), 2); return r },
	}
	for n, call := range calls {
		first := call()
		kept := slices.Clone(first)
		for i := range first {
			first[i] = hex(77, 77)
		}
		if next := call(); len(next) == 0 || !slices.Equal(next, kept) {
			t.Errorf("call %d returns %v after its first result was overwritten, want %v", n, next, kept)
		}
	}
}

func TestSlicesOfLinesAreApart(t *testing.T) {
	kept := lineOf(t, hex(0, 0), hex(4, 4))
	line := lineOf(t, hex(0, 0), hex(4, 4))
	for i := range line {
		for k := range line[i] {
			line[i][k] = hex(77, 77)
		}
		line[i] = append(line[i], hex(88, 88))
		for later := i + 1; later < len(line); later++ {
			if !slices.Equal(line[later], kept[later]) {
				t.Fatalf("point %d changes with point %d", later, i)
			}
		}
	}
	if !sameLine(lineOf(t, hex(0, 0), hex(4, 4)), kept) {
		t.Error("the next line is another one")
	}
}
