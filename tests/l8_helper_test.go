package tests

import (
	"fmt"
	"math/rand"
	"slices"
	"testing"

	"loop.example/g00886/impl"
)

// The kinds and terrains of frontRules: guard and boat have Zone, scout has not;
// guard and scout enter the plain, guard alone the hill, scout alone the path,
// boat alone the sea, and nobody the rock.
const (
	guard = iota
	scout
	boat
)

const (
	plain = iota
	ridge
	path
	sea
	rock
)

func frontRules() impl.Rules {
	return impl.Rules{
		Terrains: []impl.Terrain{
			{Name: "plain", Cost: []int{1, 1, 0}}, {Name: "ridge", Cost: []int{9, 0, 0}}, {Name: "path", Cost: []int{0, 1, 0}},
			{Name: "sea", Cost: []int{0, 0, 2}}, {Name: "rock", Cost: []int{0, 0, 0}},
		},
		Kinds: []impl.Kind{
			{Name: "guard", Strength: 3, Moves: 3, Steps: 2, Zone: true, View: 1},
			{Name: "scout", Strength: 1, Moves: 5, Steps: 1, View: 2},
			{Name: "boat", Strength: 2, Moves: 4, Steps: 1, Zone: true},
		},
		Stack: 4, River: 2, Road: 1, Supply: 5, Turns: 10,
	}
}

func frontBoard(width int, terrain ...int) impl.Board {
	m := impl.Map{Width: width, Height: len(terrain) / width, Terrain: terrain}
	return impl.Board{Rules: frontRules(), Map: m}
}

// middle is the hex in the middle of plainFront, and aroundMiddle its neighbours
// in the directions 0 to 5, between which and it there are the edges
// edgesOfMiddle. The hexes 0 and 8 are farther away.
const middle = 4

var (
	aroundMiddle  = []int{5, 2, 1, 3, 6, 7}
	edgesOfMiddle = []int{12, 13, 14, 9, 19, 23}
)

// plainFront returns a board with three rows of three hexes.
func plainFront() impl.Board {
	return frontBoard(3, make([]int, 9)...)
}

// without returns a new list that is sorted and does not have some numbers.
func without(list []int, numbers ...int) []int {
	rest := slices.Clone(list)
	slices.Sort(rest)
	return slices.DeleteFunc(rest, func(n int) bool { return slices.Contains(numbers, n) })
}

// drawnFront returns a board with rivers and roads and with kinds with and
// without Zone. One in ten is of any size, the others are small, so that units
// meet on them.
func drawnFront(random *rand.Rand) impl.Board {
	b := drawnBoard(random)
	if random.Intn(10) > 0 {
		b.Map = plainMap(1+random.Intn(4), 1+random.Intn(4))
		for i := range b.Map.Terrain {
			b.Map.Terrain[i] = random.Intn(len(b.Rules.Terrains))
		}
	}
	for k := range b.Rules.Kinds {
		b.Rules.Kinds[k].Zone = random.Intn(3) > 0
	}
	for _, number := range edgeNumbers(b.Map.Width, b.Map.Height) {
		if random.Intn(3) == 0 {
			b.Map.Rivers = append(b.Map.Rivers, number)
		}
		if random.Intn(4) == 0 {
			b.Map.Roads = append(b.Map.Roads, number)
		}
	}
	return b
}

// fronts returns positions of drawn boards, and some of those of chapter 6.
func fronts() []position {
	list := positions()[:40]
	random := rand.New(rand.NewSource(8))
	for range 300 {
		b := drawnFront(random)
		list = append(list, position{b, drawnState(random, b)})
	}
	return list
}

// survey is what the definitions say of the hexes of a position.
type survey struct {
	sources [2][][]int
	owners  []int
}

func (x survey) inZone(side, i int) bool {
	return len(x.sources[side][i]) > 0
}

// controlBy reads the contract of ControlMap word by word.
func (x survey) controlBy(i int) int {
	switch {
	case x.owners[i] == 0:
		return impl.CtFirst
	case x.owners[i] == 1:
		return impl.CtOther
	case x.inZone(0, i) && x.inZone(1, i):
		return impl.CtBoth
	case x.inZone(0, i):
		return impl.CtFirst
	case x.inZone(1, i):
		return impl.CtOther
	}
	return impl.CtNone
}

// nextBySearch returns the neighbour of a hex in a direction, or -1.
func nextBySearch(b impl.Board, i, d int) int {
	h := sum(hexOf(b, i), steps[d])
	for k := range b.Map.Terrain {
		if hexOf(b, k) == h {
			return k
		}
	}
	return -1
}

// surveyOf goes from edge to edge, not from unit to unit: over each one, the
// units of both ends exert control on the other end.
func surveyOf(p position) survey {
	n := len(p.board.Map.Terrain)
	x := survey{sources: [2][][]int{make([][]int, n), make([][]int, n)}, owners: slices.Repeat([]int{-1}, n)}
	for _, e := range edgesBySearch(p.board.Map.Width, p.board.Map.Height) {
		if slices.Contains(p.board.Map.Rivers, e.number) && !slices.Contains(p.board.Map.Roads, e.number) {
			continue
		}
		for _, ends := range [][2]int{{e.from, e.to}, {e.to, e.from}} {
			for u, v := range p.state.Units {
				if v.At == ends[0] && p.board.Rules.Kinds[v.Kind].Zone && costAt(p.board, v.Kind, ends[1]) > 0 {
					x.sources[v.Side][ends[1]] = append(x.sources[v.Side][ends[1]], u)
				}
			}
		}
	}
	for side := range x.sources {
		for i := range x.sources[side] {
			slices.Sort(x.sources[side][i])
		}
	}
	for _, v := range p.state.Units {
		if v.At >= 0 {
			x.owners[v.At] = v.Side
		}
	}
	return x
}

// allowedBySearch reads the contract of StepAllowed word by word.
func (x survey) allowedBySearch(p position, u, i, d int) bool {
	v, to := p.state.Units[u], nextBySearch(p.board, i, d)
	if to < 0 || costAt(p.board, v.Kind, to) == 0 || x.owners[to] == 1-v.Side {
		return false
	}
	return !x.inZone(1-v.Side, i) || !x.inZone(1-v.Side, to)
}

// surroundedBySearch reads the contract of IsSurrounded word by word.
func (x survey) surroundedBySearch(p position, u int) bool {
	v := p.state.Units[u]
	for d := range steps {
		to := nextBySearch(p.board, v.At, d)
		if to >= 0 && costAt(p.board, v.Kind, to) > 0 && x.owners[to] != 1-v.Side && !x.inZone(1-v.Side, to) {
			return false
		}
	}
	return true
}

// hexesBySearch returns the hexes that a test picks.
func hexesBySearch(b impl.Board, picks func(i int) bool) []int {
	var list []int
	for i := range b.Map.Terrain {
		if picks(i) {
			list = append(list, i)
		}
	}
	return list
}

// wantZone requires the hexes of the zone of a side, also of InZone.
func wantZone(t *testing.T, b impl.Board, s impl.State, side int, want ...int) {
	t.Helper()
	if list, ok := impl.ZoneHexes(b, s, side); !ok || !slices.Equal(list, want) {
		t.Errorf("ZoneHexes of side %d in %v on %v: %v, %v, want %v", side, s, b, list, ok, want)
	}
	for i := range b.Map.Terrain {
		if is, ok := impl.InZone(b, s, side, i); !ok || is != slices.Contains(want, i) {
			t.Errorf("InZone %d of side %d in %v on %v: %v, %v, want the zone %v", i, side, s, b, is, ok, want)
		}
	}
}

func wantSources(t *testing.T, b impl.Board, s impl.State, side, i int, want ...int) {
	t.Helper()
	if list, ok := impl.ZoneSources(b, s, side, i); !ok || !slices.Equal(list, want) {
		t.Errorf("ZoneSources of %d and side %d in %v on %v: %v, %v, want %v", i, side, s, b, list, ok, want)
	}
}

func wantContested(t *testing.T, b impl.Board, s impl.State, want ...int) {
	t.Helper()
	if list, ok := impl.ContestedHexes(b, s); !ok || !slices.Equal(list, want) {
		t.Errorf("ContestedHexes in %v on %v: %v, %v, want %v", s, b, list, ok, want)
	}
}

func wantStop(t *testing.T, b impl.Board, s impl.State, u, i int, want bool) {
	t.Helper()
	if is, ok := impl.MustStop(b, s, u, i); !ok || is != want {
		t.Errorf("MustStop of unit %d at %d in %v on %v: %v, %v, want %v", u, i, s, b, is, ok, want)
	}
}

func wantStep(t *testing.T, b impl.Board, s impl.State, u, i, d int, want bool) {
	t.Helper()
	if is, ok := impl.StepAllowed(b, s, u, i, d); !ok || is != want {
		t.Errorf("StepAllowed of unit %d from %d in direction %d in %v on %v: %v, %v, want %v", u, i, d, s, b, is, ok, want)
	}
}

func wantExits(t *testing.T, b impl.Board, s impl.State, u int, want ...int) {
	t.Helper()
	if list, ok := impl.FreeExits(b, s, u); !ok || !slices.Equal(list, want) {
		t.Errorf("FreeExits of unit %d in %v on %v: %v, %v, want %v", u, s, b, list, ok, want)
	}
}

func wantSurrounded(t *testing.T, b impl.Board, s impl.State, u int, want bool) {
	t.Helper()
	if is, ok := impl.IsSurrounded(b, s, u); !ok || is != want {
		t.Errorf("IsSurrounded of unit %d in %v on %v: %v, %v, want %v", u, s, b, is, ok, want)
	}
}

// wantControl requires ControlMap, and CountControlled to count it.
func wantControl(t *testing.T, b impl.Board, s impl.State, want ...int) {
	t.Helper()
	what := fmt.Sprint(" in ", s, " on ", b.Map)
	list, ok := impl.ControlMap(b, s)
	wantList(t, "ControlMap"+what, list, ok, want)
	counts := make([]int, 4)
	for _, n := range want {
		counts[slices.Index([]int{0, 1, 2, -1}, n)]++
	}
	list, ok = impl.CountControlled(b, s)
	wantList(t, "CountControlled"+what, list, ok, counts)
}

// wantSurvey requires the results of all functions of the chapter for a position.
func wantSurvey(t *testing.T, p position) {
	t.Helper()
	x := surveyOf(p)
	for side := range 2 {
		wantZone(t, p.board, p.state, side, hexesBySearch(p.board, func(i int) bool { return x.inZone(side, i) })...)
		for i, want := range x.sources[side] {
			wantSources(t, p.board, p.state, side, i, want...)
		}
	}
	wantContested(t, p.board, p.state, hexesBySearch(p.board, func(i int) bool { return x.inZone(0, i) && x.inZone(1, i) })...)
	var control []int
	for i := range p.board.Map.Terrain {
		control = append(control, x.controlBy(i))
	}
	wantControl(t, p.board, p.state, control...)
	for u := range p.state.Units {
		wantUnitSurvey(t, p, x, u)
	}
}

func wantUnitSurvey(t *testing.T, p position, x survey, u int) {
	t.Helper()
	v := p.state.Units[u]
	for i := range p.board.Map.Terrain {
		wantStop(t, p.board, p.state, u, i, x.inZone(1-v.Side, i))
		for d := range steps {
			wantStep(t, p.board, p.state, u, i, d, x.allowedBySearch(p, u, i, d))
		}
	}
	if v.At == -1 {
		wantNoExits(t, p.board, p.state, u)
		return
	}
	var exits []int
	for d := range steps {
		if x.allowedBySearch(p, u, v.At, d) {
			exits = append(exits, d)
		}
	}
	wantExits(t, p.board, p.state, u, exits...)
	wantSurrounded(t, p.board, p.state, u, x.surroundedBySearch(p, u))
}

// wantNoExits requires the functions of a unit and the hex in which it is to fail.
func wantNoExits(t *testing.T, b impl.Board, s impl.State, u int) {
	t.Helper()
	what := fmt.Sprint(" of unit ", u, " in ", s, " on ", b)
	list, ok := impl.FreeExits(b, s, u)
	wantZero(t, "FreeExits"+what, ok, list)
	is, ok := impl.IsSurrounded(b, s, u)
	wantZero(t, "IsSurrounded"+what, ok, is)
}
