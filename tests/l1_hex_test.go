package tests

import (
	"slices"
	"testing"

	"loop.example/g00886/impl"
)

// steps are the changes of Q and R by the directions 0 to 5.
var steps = []impl.Hex{{Q: 1, R: 0}, {Q: 1, R: -1}, {Q: 0, R: -1}, {Q: -1, R: 0}, {Q: -1, R: 1}, {Q: 0, R: 1}}

func sum(a, b impl.Hex) impl.Hex {
	return hex(a.Q+b.Q, a.R+b.R)
}

func inLimits(h impl.Hex) bool {
	return h.Q >= -40 && h.Q <= 40 && h.R >= -40 && h.R <= 40
}

// distances counts the steps from (0, 0) by a breadth-first search without
// limits, independently of the formula.
func distances(most int) map[impl.Hex]int {
	found := map[impl.Hex]int{{}: 0}
	last := []impl.Hex{{}}
	for n := 1; n <= most; n++ {
		var next []impl.Hex
		for _, h := range last {
			for _, s := range steps {
				k := sum(h, s)
				if _, ok := found[k]; !ok {
					found[k] = n
					next = append(next, k)
				}
			}
		}
		last = next
	}
	return found
}

func distance(t *testing.T, a, b impl.Hex) int {
	t.Helper()
	n, ok := impl.DistanceOf(a, b)
	if !ok {
		t.Fatalf("DistanceOf(%v, %v) fails", a, b)
	}
	return n
}

func TestLimits(t *testing.T) {
	if impl.MaxCoord != 40 || impl.MaxRadius != 6 {
		t.Error(impl.MaxCoord, impl.MaxRadius)
	}
}

func TestIsHex(t *testing.T) {
	for _, h := range hexesWithin(42) {
		if impl.IsHex(h) != inLimits(h) {
			t.Errorf("IsHex(%v) = %v", h, impl.IsHex(h))
		}
	}
}

func TestNeighboursLeadBack(t *testing.T) {
	for _, h := range hexesWithin(impl.MaxCoord) {
		for d, s := range steps {
			n, ok := impl.NeighbourOf(h, d)
			if !inLimits(sum(h, s)) {
				wantZero(t, "NeighbourOf beyond the limits", ok, n)
				continue
			}
			if !ok || n != sum(h, s) {
				t.Fatalf("NeighbourOf(%v, %d) = %v, %v", h, d, n, ok)
			}
			if back, ok := impl.NeighbourOf(n, (d+3)%6); !ok || back != h {
				t.Fatalf("NeighbourOf(%v, %d) = %v, %v, want %v", n, (d+3)%6, back, ok, h)
			}
			if k, ok := impl.DirectionTo(h, n); !ok || k != d {
				t.Fatalf("DirectionTo(%v, %v) = %d, %v, want %d", h, n, k, ok, d)
			}
			if k, ok := impl.DirectionTo(n, h); !ok || k != (d+3)%6 {
				t.Fatalf("DirectionTo(%v, %v) = %d, %v, want %d", n, h, k, ok, (d+3)%6)
			}
			if distance(t, h, n) != 1 {
				t.Fatalf("distance of neighbours %v and %v is %d", h, n, distance(t, h, n))
			}
		}
	}
}

func TestNeighbourAtLimits(t *testing.T) {
	cases := []struct {
		h    impl.Hex
		d    int
		want impl.Hex
		ok   bool
	}{
		{hex(40, 40), 0, hex(0, 0), false},
		{hex(40, 40), 1, hex(0, 0), false},
		{hex(40, 40), 2, hex(40, 39), true},
		{hex(40, 40), 3, hex(39, 40), true},
		{hex(40, 40), 4, hex(0, 0), false},
		{hex(40, 40), 5, hex(0, 0), false},
		{hex(-40, -40), 0, hex(-39, -40), true},
		{hex(-40, -40), 3, hex(0, 0), false},
		{hex(-40, -40), 5, hex(-40, -39), true},
		{hex(40, -40), 4, hex(39, -39), true},
		{hex(-40, 40), 1, hex(-39, 39), true},
	}
	for _, c := range cases {
		if got, ok := impl.NeighbourOf(c.h, c.d); got != c.want || ok != c.ok {
			t.Errorf("NeighbourOf(%v, %d) = %v, %v, want %v, %v", c.h, c.d, got, ok, c.want, c.ok)
		}
	}
}

func TestDirectionToOnlyNeighbours(t *testing.T) {
	if d, ok := impl.DirectionTo(hex(0, 0), hex(0, -1)); d != 2 || !ok {
		t.Error("example:", d, ok)
	}
	a := hex(7, -3)
	for _, o := range hexesWithin(4) {
		d, ok := impl.DirectionTo(a, sum(a, o))
		if want := slices.Index(steps, o); want < 0 {
			wantZero(t, "DirectionTo of no neighbour", ok, d)
		} else if !ok || d != want {
			t.Errorf("DirectionTo by %v = %d, %v, want %d", o, d, ok, want)
		}
	}
}

func TestDistanceOfCountsSteps(t *testing.T) {
	if n, ok := impl.DistanceOf(hex(0, 0), hex(2, -3)); n != 3 || !ok {
		t.Error("example:", n, ok)
	}
	found := distances(160)
	ends := []impl.Hex{hex(0, 0), hex(5, -9), hex(40, 40), hex(-40, 40), hex(40, -40), hex(-40, -40), hex(0, 40)}
	for _, a := range ends {
		for _, b := range hexesWithin(impl.MaxCoord) {
			want := found[hex(b.Q-a.Q, b.R-a.R)]
			if distance(t, a, b) != want || distance(t, b, a) != want {
				t.Fatalf("distance of %v and %v is %d and %d, want %d", a, b, distance(t, a, b), distance(t, b, a), want)
			}
		}
	}
}

func TestDistanceOfCorners(t *testing.T) {
	if n := distance(t, hex(-40, -40), hex(40, 40)); n != 160 {
		t.Error("corners with the greatest distance:", n)
	}
	if n := distance(t, hex(-40, 40), hex(40, -40)); n != 80 {
		t.Error("the other corners:", n)
	}
	if n := distance(t, hex(40, 40), hex(40, 40)); n != 0 {
		t.Error("a hex and itself:", n)
	}
}

func TestWalkFrom(t *testing.T) {
	got, ok := impl.WalkFrom(hex(3, 3), []int{0, 1, 2, 3, 4, 5, 5})
	want := []impl.Hex{hex(4, 3), hex(5, 2), hex(5, 1), hex(4, 1), hex(3, 2), hex(3, 3), hex(3, 4)}
	if !ok || !slices.Equal(got, want) {
		t.Errorf("got %v, %v, want %v", got, ok, want)
	}
	for _, path := range [][]int{nil, {}} {
		if got, ok := impl.WalkFrom(hex(40, 40), path); !ok || len(got) != 0 {
			t.Errorf("a path without steps: %v, %v", got, ok)
		}
	}
}

func TestWalkFromLength(t *testing.T) {
	long := make([]int, 60)
	got, ok := impl.WalkFrom(hex(-20, 1), long)
	if !ok || len(got) != 60 || got[0] != hex(-19, 1) || got[59] != hex(40, 1) {
		t.Errorf("60 steps: %v, %v", got, ok)
	}
	got, ok = impl.WalkFrom(hex(-40, 1), make([]int, 61))
	wantZero(t, "WalkFrom with 61 steps", ok, got)
}

func TestWalkFromLeavingTheLimits(t *testing.T) {
	got, ok := impl.WalkFrom(hex(39, 0), []int{0, 3, 0})
	if !ok || !slices.Equal(got, []impl.Hex{hex(40, 0), hex(39, 0), hex(40, 0)}) {
		t.Errorf("along the limit: %v, %v", got, ok)
	}
	got, ok = impl.WalkFrom(hex(39, 0), []int{0, 0, 3, 3})
	wantZero(t, "WalkFrom across the limit and back", ok, got)
	got, ok = impl.WalkFrom(hex(0, -39), []int{2, 2})
	wantZero(t, "WalkFrom across the limit", ok, got)
}

func TestWalkBack(t *testing.T) {
	path := []int{0, 0, 1, 5, 4, 2, 2, 3, 1, 0}
	there, ok := impl.WalkFrom(hex(-7, 12), path)
	if !ok {
		t.Fatal("the walk fails")
	}
	var reverse []int
	for i := len(path) - 1; i >= 0; i-- {
		reverse = append(reverse, (path[i]+3)%6)
	}
	back, ok := impl.WalkFrom(there[len(there)-1], reverse)
	if !ok || back[len(back)-1] != hex(-7, 12) {
		t.Fatalf("the walk back ends in %v", back)
	}
	for i := range len(path) - 1 {
		if back[i] != there[len(there)-2-i] {
			t.Errorf("step %d of the walk back is at %v, want %v", i, back[i], there[len(there)-2-i])
		}
	}
}

func TestRingOfInOrder(t *testing.T) {
	cases := []struct {
		radius int
		want   []impl.Hex
	}{
		{0, []impl.Hex{hex(0, 0)}},
		{1, []impl.Hex{hex(-1, 1), hex(0, 1), hex(1, 0), hex(1, -1), hex(0, -1), hex(-1, 0)}},
		{2, []impl.Hex{
			hex(-2, 2), hex(-1, 2), hex(0, 2), hex(1, 1), hex(2, 0), hex(2, -1),
			hex(2, -2), hex(1, -2), hex(0, -2), hex(-1, -1), hex(-2, 0), hex(-2, 1),
		}},
	}
	for _, c := range cases {
		if got, ok := impl.RingOf(hex(0, 0), c.radius); !ok || !slices.Equal(got, c.want) {
			t.Errorf("radius %d: %v, %v, want %v", c.radius, got, ok, c.want)
		}
	}
}

func TestRingOfEveryRadius(t *testing.T) {
	centre := hex(-11, 8)
	for radius := 1; radius <= impl.MaxRadius; radius++ {
		ring, ok := impl.RingOf(centre, radius)
		if !ok || len(ring) != 6*radius || ring[0] != hex(-11-radius, 8+radius) {
			t.Fatalf("radius %d: %v, %v", radius, ring, ok)
		}
		for i, h := range ring {
			if distance(t, h, centre) != radius {
				t.Errorf("radius %d: %v has the distance %d", radius, h, distance(t, h, centre))
			}
			if d, ok := impl.DirectionTo(h, ring[(i+1)%len(ring)]); !ok || d != i/radius {
				t.Errorf("radius %d: direction %d, %v after hex %d, want %d", radius, d, ok, i, i/radius)
			}
		}
	}
}

func TestDiskOfInOrder(t *testing.T) {
	got, ok := impl.DiskOf(hex(0, 0), 1)
	want := []impl.Hex{hex(-1, 0), hex(-1, 1), hex(0, -1), hex(0, 0), hex(0, 1), hex(1, -1), hex(1, 0)}
	if !ok || !slices.Equal(got, want) {
		t.Errorf("radius 1: %v, %v, want %v", got, ok, want)
	}
	found := distances(impl.MaxRadius)
	centre := hex(9, -25)
	for radius := 0; radius <= impl.MaxRadius; radius++ {
		var want []impl.Hex
		for _, o := range hexesWithin(impl.MaxRadius) {
			if n, ok := found[o]; ok && n <= radius {
				want = append(want, sum(centre, o))
			}
		}
		if got, ok := impl.DiskOf(centre, radius); !ok || !slices.Equal(got, want) {
			t.Errorf("radius %d: %v, %v, want %v", radius, got, ok, want)
		}
	}
}

func TestDiskIsRings(t *testing.T) {
	centre := hex(-34, 34)
	disk, ok := impl.DiskOf(centre, impl.MaxRadius)
	if !ok {
		t.Fatal("the disk fails")
	}
	count := 0
	for radius := 0; radius <= impl.MaxRadius; radius++ {
		ring, ok := impl.RingOf(centre, radius)
		if !ok {
			t.Fatal("the ring fails", radius)
		}
		count += len(ring)
		for _, h := range ring {
			if !slices.Contains(disk, h) {
				t.Errorf("%v of the ring %d is not in the disk", h, radius)
			}
		}
	}
	if len(disk) != count || count != 127 {
		t.Errorf("the disk has %d hexes, the rings have %d", len(disk), count)
	}
}

func TestRingsAndDisksAtLimits(t *testing.T) {
	for _, h := range hexesWithin(impl.MaxCoord) {
		for radius := 0; radius <= impl.MaxRadius; radius++ {
			inside := max(h.Q, -h.Q, h.R, -h.R)+radius <= impl.MaxCoord
			ring, ok := impl.RingOf(h, radius)
			if ok != inside {
				t.Fatalf("RingOf(%v, %d): %v", h, radius, ok)
			}
			if !inside {
				wantZero(t, "RingOf across the limits", ok, ring)
			}
			disk, ok := impl.DiskOf(h, radius)
			if ok != inside {
				t.Fatalf("DiskOf(%v, %d): %v", h, radius, ok)
			}
			if !inside {
				wantZero(t, "DiskOf across the limits", ok, disk)
			}
		}
	}
}

func TestTurnHex(t *testing.T) {
	if h, ok := impl.TurnHex(hex(1, 0), hex(0, 0), 1); !ok || h != hex(0, 1) {
		t.Error("example:", h, ok)
	}
	want := []impl.Hex{hex(5, 0), hex(4, 3), hex(1, 5), hex(-1, 4), hex(0, 1), hex(3, -1)}
	for k, w := range want {
		if h, ok := impl.TurnHex(hex(5, 0), hex(2, 2), k); !ok || h != w {
			t.Errorf("%d turns: %v, %v, want %v", k, h, ok, w)
		}
	}
	centre := hex(-3, 17)
	for d, s := range steps {
		h, ok := impl.TurnHex(sum(centre, s), centre, 1)
		if !ok || h != sum(centre, steps[(d+5)%6]) {
			t.Errorf("direction %d turns into %v, %v", d, h, ok)
		}
	}
}

func TestTurnsAddUp(t *testing.T) {
	centre := hex(4, -6)
	for _, h := range hexesWithin(9) {
		turned := h
		for k := range 6 {
			if got, ok := impl.TurnHex(h, centre, k); !ok || got != turned {
				t.Fatalf("%d turns of %v: %v, %v, want %v", k, h, got, ok, turned)
			}
			next, ok := impl.TurnHex(turned, centre, 1)
			if !ok {
				t.Fatalf("a turn of %v fails", turned)
			}
			turned = next
		}
		if turned != h {
			t.Fatalf("six turns of %v lead to %v", h, turned)
		}
	}
}

// Only the result has to be valid: (40, 40) passes hexes beyond the limits on
// its way to the opposite corner.
func TestTurnHexAtLimits(t *testing.T) {
	for k := range 6 {
		h, ok := impl.TurnHex(hex(40, 40), hex(0, 0), k)
		switch k {
		case 0:
			if !ok || h != hex(40, 40) {
				t.Error("no turn:", h, ok)
			}
		case 3:
			if !ok || h != hex(-40, -40) {
				t.Error("three turns:", h, ok)
			}
		default:
			wantZero(t, "TurnHex beyond the limits", ok, h)
		}
	}
	if h, ok := impl.TurnHex(hex(40, -40), hex(0, 0), 1); !ok || h != hex(40, 0) {
		t.Error("to a border:", h, ok)
	}
	h, ok := impl.TurnHex(hex(-40, -40), hex(40, 40), 3)
	wantZero(t, "TurnHex about a corner", ok, h)
}

func TestMirrorHex(t *testing.T) {
	if h, ok := impl.MirrorHex(hex(5, -2), hex(2, 2)); !ok || h != hex(-2, 5) {
		t.Error(h, ok)
	}
	centre := hex(21, -4)
	for d, s := range steps {
		h, ok := impl.MirrorHex(sum(centre, s), centre)
		if !ok || h != sum(centre, steps[5-d]) {
			t.Errorf("direction %d becomes %v, %v", d, h, ok)
		}
	}
	for _, h := range hexesWithin(12) {
		once, ok := impl.MirrorHex(h, hex(1, 2))
		if !ok {
			t.Fatal("fails for", h)
		}
		if twice, ok := impl.MirrorHex(once, hex(1, 2)); !ok || twice != h {
			t.Fatalf("%v mirrored twice is %v, %v", h, twice, ok)
		}
	}
}

func TestMirrorHexAtLimits(t *testing.T) {
	if h, ok := impl.MirrorHex(hex(40, -40), hex(0, 0)); !ok || h != hex(-40, 40) {
		t.Error("corner:", h, ok)
	}
	if h, ok := impl.MirrorHex(hex(40, 39), hex(40, 40)); !ok || h != hex(39, 40) {
		t.Error("about a corner:", h, ok)
	}
	h, ok := impl.MirrorHex(hex(40, 0), hex(0, 1))
	wantZero(t, "MirrorHex beyond the limits", ok, h)
	h, ok = impl.MirrorHex(hex(-40, 0), hex(1, 0))
	wantZero(t, "MirrorHex beyond the limits", ok, h)
}

func TestTurnedAndMirroredDistances(t *testing.T) {
	centre := hex(2, -1)
	figure := []impl.Hex{hex(0, 0), hex(3, 1), hex(-4, 6), hex(8, -8), hex(-7, -5), hex(10, 9), hex(2, -1)}
	for _, a := range figure {
		for _, b := range figure {
			for k := range 6 {
				x, ok := impl.TurnHex(a, centre, k)
				y, ok2 := impl.TurnHex(b, centre, k)
				if !ok || !ok2 || distance(t, x, y) != distance(t, a, b) {
					t.Errorf("%d turns change the distance of %v and %v", k, a, b)
				}
			}
			x, ok := impl.MirrorHex(a, centre)
			y, ok2 := impl.MirrorHex(b, centre)
			if !ok || !ok2 || distance(t, x, y) != distance(t, a, b) {
				t.Errorf("the mirror changes the distance of %v and %v", a, b)
			}
		}
	}
}

func TestNearestAlong(t *testing.T) {
	cases := []struct {
		list []impl.Hex
		h    impl.Hex
		want int
	}{
		{[]impl.Hex{hex(40, 40)}, hex(-40, -40), 0},
		{[]impl.Hex{hex(5, 0), hex(2, 0), hex(1, 1)}, hex(0, 0), 1},
		{[]impl.Hex{hex(5, 0), hex(1, 1), hex(2, 0)}, hex(0, 0), 1},
		{[]impl.Hex{hex(5, 0), hex(2, 0), hex(0, 1), hex(1, 0)}, hex(0, 0), 2},
		{[]impl.Hex{hex(3, 3), hex(3, 3), hex(3, 3)}, hex(3, 3), 0},
		{[]impl.Hex{hex(0, 3), hex(1, -1), hex(0, 0)}, hex(0, 0), 2},
	}
	for _, c := range cases {
		if got, ok := impl.NearestAlong(c.list, c.h); !ok || got != c.want {
			t.Errorf("NearestAlong(%v, %v) = %d, %v, want %d", c.list, c.h, got, ok, c.want)
		}
	}
}

func TestNearestAlongLength(t *testing.T) {
	list := make([]impl.Hex, 61)
	for i := range list {
		list[i] = hex(40-i/2, -i/2)
	}
	if got, ok := impl.NearestAlong(list[:60], hex(0, -40)); !ok || got != 58 {
		t.Error("60 hexes:", got, ok)
	}
	if got, ok := impl.NearestAlong(list[:1], hex(0, 0)); !ok || got != 0 {
		t.Error("1 hex:", got, ok)
	}
	got, ok := impl.NearestAlong(list, hex(40, 0))
	wantZero(t, "NearestAlong of 61 hexes", ok, got)
	got, ok = impl.NearestAlong(list[:0], hex(40, 0))
	wantZero(t, "NearestAlong of no hexes", ok, got)
}
