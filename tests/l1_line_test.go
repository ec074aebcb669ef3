package tests

import (
	"slices"
	"testing"

	"loop.example/g00886/impl"
)

func lineOf(t *testing.T, a, b impl.Hex) [][]impl.Hex {
	t.Helper()
	line, ok := impl.LineOf(a, b)
	if !ok {
		t.Fatalf("LineOf(%v, %v) fails", a, b)
	}
	return line
}

func sameLine(x, y [][]impl.Hex) bool {
	return slices.EqualFunc(x, y, slices.Equal)
}

// nearestHexes finds the hexes with the least distance in the plane from the
// point (q/n, r/n): its square is proportional to x*x + x*y + y*y.
func nearestHexes(q, r, n int) []impl.Hex {
	var best []impl.Hex
	least := 0
	for x := q/n - 1; x <= q/n+1; x++ {
		for y := r/n - 1; y <= r/n+1; y++ {
			u, v := q-x*n, r-y*n
			square := u*u + u*v + v*v
			if len(best) == 0 || square < least {
				best, least = nil, square
			}
			if square == least {
				best = append(best, hex(x, y))
			}
		}
	}
	return best
}

func TestLineOfExamples(t *testing.T) {
	cases := []struct {
		a, b impl.Hex
		want [][]impl.Hex
	}{
		{hex(0, 0), hex(1, 1), [][]impl.Hex{{hex(0, 0)}, {hex(0, 1), hex(1, 0)}, {hex(1, 1)}}},
		{hex(3, -2), hex(3, -2), [][]impl.Hex{{hex(3, -2)}}},
		{hex(40, 40), hex(40, 40), [][]impl.Hex{{hex(40, 40)}}},
		{hex(0, 0), hex(0, 1), [][]impl.Hex{{hex(0, 0)}, {hex(0, 1)}}},
		{hex(0, 0), hex(3, 0), [][]impl.Hex{{hex(0, 0)}, {hex(1, 0)}, {hex(2, 0)}, {hex(3, 0)}}},
		{hex(0, 0), hex(1, 2), [][]impl.Hex{{hex(0, 0)}, {hex(0, 1)}, {hex(1, 1)}, {hex(1, 2)}}},
		{hex(0, 0), hex(3, -1), [][]impl.Hex{{hex(0, 0)}, {hex(1, 0)}, {hex(2, -1)}, {hex(3, -1)}}},
		{hex(-1, -1), hex(-4, 0), [][]impl.Hex{{hex(-1, -1)}, {hex(-2, -1)}, {hex(-3, 0)}, {hex(-4, 0)}}},
	}
	for _, c := range cases {
		if got := lineOf(t, c.a, c.b); !sameLine(got, c.want) {
			t.Errorf("LineOf(%v, %v) = %v, want %v", c.a, c.b, got, c.want)
		}
	}
}

// The middle of each of these ways lies on a border: the common value of both
// hexes is Q, R or Q + R.
func TestLineOfOnBorders(t *testing.T) {
	cases := []struct {
		a, b impl.Hex
		want []impl.Hex
	}{
		{hex(0, 0), hex(2, -1), []impl.Hex{hex(1, -1), hex(1, 0)}},
		{hex(0, 0), hex(-2, 1), []impl.Hex{hex(-1, 0), hex(-1, 1)}},
		{hex(0, 0), hex(1, -2), []impl.Hex{hex(0, -1), hex(1, -1)}},
		{hex(0, 0), hex(-1, 2), []impl.Hex{hex(-1, 1), hex(0, 1)}},
		{hex(0, 0), hex(1, 1), []impl.Hex{hex(0, 1), hex(1, 0)}},
		{hex(0, 0), hex(-1, -1), []impl.Hex{hex(-1, 0), hex(0, -1)}},
		{hex(-40, -40), hex(-39, -39), []impl.Hex{hex(-40, -39), hex(-39, -40)}},
	}
	for _, c := range cases {
		got := lineOf(t, c.a, c.b)
		want := [][]impl.Hex{{c.a}, c.want, {c.b}}
		if !sameLine(got, want) {
			t.Errorf("LineOf(%v, %v) = %v, want %v", c.a, c.b, got, want)
		}
	}
}

func TestLineOfBetweenCorners(t *testing.T) {
	line := lineOf(t, hex(-40, -40), hex(40, 40))
	if len(line) != 161 {
		t.Fatal("length", len(line))
	}
	for i, near := range line {
		want := []impl.Hex{hex(i/2-40, i/2-40)}
		if i%2 == 1 {
			want = []impl.Hex{hex(i/2-40, i/2-39), hex(i/2-39, i/2-40)}
		}
		if !slices.Equal(near, want) {
			t.Errorf("point %d: %v, want %v", i, near, want)
		}
	}
}

func TestLineOfIsNearest(t *testing.T) {
	starts := []impl.Hex{hex(0, 0), hex(-13, 22), hex(40, 40), hex(-40, 40), hex(40, -7)}
	for _, a := range starts {
		for _, b := range hexesWithin(impl.MaxCoord) {
			n := distance(t, a, b)
			line := lineOf(t, a, b)
			if len(line) != n+1 {
				t.Fatalf("LineOf(%v, %v) has %d points, want %d", a, b, len(line), n+1)
			}
			for i, near := range line {
				m := max(n, 1)
				want := nearestHexes(a.Q*m+i*(b.Q-a.Q), a.R*m+i*(b.R-a.R), m)
				if !slices.Equal(near, want) {
					t.Fatalf("LineOf(%v, %v), point %d: %v, want %v", a, b, i, near, want)
				}
			}
		}
	}
}

func TestLineBack(t *testing.T) {
	for _, a := range []impl.Hex{hex(0, 0), hex(-8, 5), hex(40, -40), hex(-40, -40)} {
		for _, b := range hexesWithin(impl.MaxCoord) {
			back := lineOf(t, b, a)
			slices.Reverse(back)
			if line := lineOf(t, a, b); !sameLine(line, back) {
				t.Fatalf("the line from %v to %v is %v, and back %v", a, b, line, back)
			}
		}
	}
}

// A line that is turned or mirrored passes the turned or mirrored hexes.
func TestTurnedAndMirroredLines(t *testing.T) {
	a, centre := hex(2, -5), hex(1, 1)
	changes := []func(impl.Hex) (impl.Hex, bool){
		func(h impl.Hex) (impl.Hex, bool) { return impl.TurnHex(h, centre, 1) },
		func(h impl.Hex) (impl.Hex, bool) { return impl.MirrorHex(h, centre) },
	}
	for _, b := range hexesWithin(9) {
		line := lineOf(t, a, b)
		for i, change := range changes {
			x, ok := change(a)
			y, ok2 := change(b)
			if !ok || !ok2 {
				t.Fatalf("change %d of %v or %v fails", i, a, b)
			}
			if got, want := lineOf(t, x, y), changedLine(line, change); !sameLine(got, want) {
				t.Fatalf("change %d of the line from %v to %v: %v, want %v", i, a, b, got, want)
			}
		}
	}
}

func changedLine(line [][]impl.Hex, change func(impl.Hex) (impl.Hex, bool)) [][]impl.Hex {
	var changed [][]impl.Hex
	for _, near := range line {
		var list []impl.Hex
		for _, h := range near {
			x, _ := change(h)
			list = append(list, x)
		}
		slices.SortFunc(list, func(x, y impl.Hex) int { return (x.Q-y.Q)*1000 + x.R - y.R })
		changed = append(changed, list)
	}
	return changed
}
