package tests

import (
	"fmt"
	"math/rand"
	"slices"
	"testing"

	"loop.example/g00886/impl"
)

func attempt(u, from, to int) impl.Attempt {
	return impl.Attempt{Unit: u, From: from, To: to}
}

func moved(u, steps, reason int) impl.Moved {
	return impl.Moved{Unit: u, Steps: steps, Reason: reason}
}

func (p position) isAttempts(l []impl.Attempt) (bool, bool) {
	return impl.IsAttempts(p.board, p.state, l)
}

func (p position) reason(l []impl.Attempt, i int) (int, bool) {
	return impl.AttemptReason(p.board, p.state, l, i)
}

func (p position) refused(l []impl.Attempt) ([]int, bool) {
	return impl.RefusedIn(p.board, p.state, l)
}

func (p position) settle(l []impl.Attempt) ([]impl.Attempt, int, bool) {
	return impl.SettleAttempts(p.board, p.state, l)
}

func (p position) do(l []impl.Attempt) (impl.State, bool) {
	return impl.DoAttempts(p.board, p.state, l)
}

func (p position) zone(u, d int, moved bool) (int, bool) {
	return impl.ZoneReason(p.board, p.state, u, d, moved)
}

func (p position) attempts(orders []impl.Order, done ...int) ([]impl.Attempt, bool) {
	return impl.AttemptsAt(p.board, p.state, orders, done)
}

func (p position) resolve(x, y impl.Sheet) (impl.State, []impl.Moved, bool) {
	return impl.ResolveMovement(p.board, p.state, x, y)
}

// stacking returns the position with another Stack of the rules.
func (p position) stacking(stack int) position {
	p.board.Rules.Stack = stack
	return p
}

// lane returns a position on a row of plain hexes, on which no kind is short of
// moves. A scout has no zone, a guard has one.
func lane(n int, units ...impl.Unit) position {
	return position{frontRow(make([]int, n)...), stateOf(units...)}.moving(9)
}

// scouts returns scouts of side 0 in hexes that are given as they are, and of
// side 1 in those that are given as their complement: ^3 stands for 3.
func scouts(hexes ...int) []impl.Unit {
	var list []impl.Unit
	for _, i := range hexes {
		if i >= 0 {
			list = append(list, unit(0, scout, i, 1))
		} else {
			list = append(list, unit(1, scout, ^i, 1))
		}
	}
	return list
}

// tries returns the attempts of units to go from where they are: numbers are
// those of a unit and a hex, again and again.
func (p position) tries(numbers ...int) []impl.Attempt {
	var list []impl.Attempt
	for pair := range slices.Chunk(numbers, 2) {
		list = append(list, attempt(pair[0], p.state.Units[pair[0]].At, pair[1]))
	}
	return list
}

// withoutIndex returns a new list without the element with an index.
func withoutIndex[T any](list []T, i int) []T {
	return slices.Delete(slices.Clone(list), i, i+1)
}

// isAttemptBySearch reads the definition of an attempt word by word.
func (w office) isAttemptBySearch(a impl.Attempt) bool {
	if a.Unit < 0 || a.Unit >= len(w.state.Units) {
		return false
	}
	u := w.state.Units[a.Unit]
	if u.At == -1 || u.At != a.From || a.To < 0 {
		return false
	}
	d := slices.Index(w.next[a.From], a.To)
	return d >= 0 && w.costs[u.Kind][a.From][d] > 0
}

func (w office) areAttemptsBySearch(l []impl.Attempt) bool {
	for n, a := range l {
		if !w.isAttemptBySearch(a) || n > 0 && a.Unit <= l[n-1].Unit {
			return false
		}
	}
	return true
}

// reasonsBySearch reads the conditions of the table word by word, and tells which
// of them hold for the attempt with an index.
func (w office) reasonsBySearch(l []impl.Attempt, i int) [5]bool {
	var holds [5]bool
	side := func(u int) int { return w.state.Units[u].Side }
	leaves := map[int]bool{}
	for _, x := range l {
		leaves[x.Unit] = true
	}
	stack := 0
	for u, v := range w.state.Units {
		if v.At != l[i].To || leaves[u] {
			continue
		}
		if v.Side != side(l[i].Unit) {
			holds[impl.ReEnemy] = true
		} else {
			stack++
		}
	}
	for _, x := range l {
		isEnemy := side(x.Unit) != side(l[i].Unit)
		if isEnemy && x.From == l[i].To && x.To == l[i].From {
			holds[impl.ReSwap] = true
		}
		if isEnemy && x.To == l[i].To {
			holds[impl.ReClash] = true
		}
		if !isEnemy && x.To == l[i].To && x.Unit < l[i].Unit {
			stack++
		}
	}
	holds[impl.ReStack] = stack >= w.board.Rules.Stack
	return holds
}

func (w office) reasonBySearch(l []impl.Attempt, i int) int {
	holds := w.reasonsBySearch(l, i)
	return max(slices.Index(holds[:], true), impl.ReGo)
}

// settledBySearch reads the rule of settling word by word. It returns the
// attempts that remain, how often some were refused, and for the units of the
// others their reasons when they were refused.
func (w office) settledBySearch(l []impl.Attempt) ([]impl.Attempt, int, map[int]int) {
	reasons := map[int]int{}
	for rounds := 0; ; rounds++ {
		var remaining []impl.Attempt
		for i, a := range l {
			if reason := w.reasonBySearch(l, i); reason == impl.ReGo {
				remaining = append(remaining, a)
			} else {
				reasons[a.Unit] = reason
			}
		}
		if len(remaining) == len(l) {
			return l, rounds, reasons
		}
		l = remaining
	}
}

// after returns the position after attempts that are made.
func (w office) after(l []impl.Attempt) office {
	for _, a := range l {
		w.state = withAt(w.state, a.Unit, a.To)
	}
	return w
}

// zoneBySearch reads the contract of ZoneReason word by word; it returns -1 if it
// fails.
func (w office) zoneBySearch(x survey, u, d int, moved bool) int {
	if u < 0 || u >= len(w.state.Units) || d < 0 || d > 5 || w.state.Units[u].At == -1 {
		return -1
	}
	v := w.state.Units[u]
	to, enemy := w.next[v.At][d], 1-v.Side
	switch {
	case to == -1:
		return -1
	case moved && x.inZone(enemy, v.At):
		return impl.ReZone
	case x.inZone(enemy, v.At) && x.inZone(enemy, to):
		return impl.ReZone
	}
	return impl.ReGo
}

// attemptsBySearch reads the contract of AttemptsAt word by word. It reports
// whether that succeeds.
func (w office) attemptsBySearch(orders []impl.Order, done []int) ([]impl.Attempt, bool) {
	var list []impl.Attempt
	if len(orders) > 12 || len(orders) != len(done) {
		return nil, false
	}
	x, before := surveyOf(w.position), -1
	for n, o := range orders {
		if o.Unit <= before || o.Unit >= len(w.state.Units) || w.state.Units[o.Unit].At == -1 || len(o.Path) > 9 {
			return nil, false
		}
		before = o.Unit
		if k := done[n]; k >= 0 && k <= 8 && k < len(o.Path) && w.zoneBySearch(x, o.Unit, o.Path[k], k > 0) == impl.ReGo {
			v := w.state.Units[o.Unit]
			if w.costs[v.Kind][v.At][o.Path[k]] > 0 {
				list = append(list, attempt(o.Unit, v.At, w.next[v.At][o.Path[k]]))
			}
		}
	}
	return list, true
}

// resolvedBySearch reads the contract of ResolveMovement word by word.
func (w office) resolvedBySearch(x, y impl.Sheet) (impl.State, []impl.Moved) {
	orders, steps, ends := map[int]impl.Order{}, map[int]int{}, map[int]int{}
	for _, o := range slices.Concat(x.Orders, y.Orders) {
		orders[o.Unit] = o
	}
	for len(ends) < len(orders) {
		fields := surveyOf(w.position)
		var list []impl.Attempt
		for u := range w.state.Units {
			o, ordered := orders[u]
			if _, finished := ends[u]; finished || !ordered {
				continue
			}
			switch k := steps[u]; {
			case k == len(o.Path):
				ends[u] = impl.ReGo
			case w.zoneBySearch(fields, u, o.Path[k], k > 0) == impl.ReZone:
				ends[u] = impl.ReZone
			default:
				at := w.state.Units[u].At
				list = append(list, attempt(u, at, w.next[at][o.Path[k]]))
			}
		}
		made, _, reasons := w.settledBySearch(list)
		for u, reason := range reasons {
			ends[u] = reason
		}
		for _, a := range made {
			steps[a.Unit]++
		}
		w = w.after(made)
	}
	var list []impl.Moved
	for u := range w.state.Units {
		if _, ordered := orders[u]; ordered {
			list = append(list, moved(u, steps[u], ends[u]))
		}
	}
	return w.state, list
}

// drawnAttempts returns a valid list with attempts of most of the units.
func drawnAttempts(random *rand.Rand, w office) []impl.Attempt {
	var list []impl.Attempt
	for u, v := range w.state.Units {
		if v.At == -1 || random.Intn(5) == 0 {
			continue
		}
		for _, d := range random.Perm(6) {
			if w.costs[v.Kind][v.At][d] > 0 {
				list = append(list, attempt(u, v.At, w.next[v.At][d]))
				break
			}
		}
	}
	return list
}

// drawnCrowd returns an office on a small board without closed hexes, on which
// twelve units are in each other's way. In half of them, nobody has a zone.
func drawnCrowd(random *rand.Rand) office {
	width, height := 1+random.Intn(4), 1+random.Intn(4)
	b := frontBoard(width, make([]int, width*height)...)
	b.Rules.Stack = 1 + random.Intn(4)
	s, kinds := stateOf(), []int{scout, random.Intn(2)}
	for u := range 12 {
		s.Units = append(s.Units, unit(random.Intn(2), kinds[random.Intn(2)], -1, 1))
		if placed := withAt(s, u, random.Intn(width*height)); validBySearch(b, placed) {
			s = placed
		}
	}
	return officeOf(position{b, s}.moving(random.Intn(10)))
}

// crowds returns offices in which units of both sides meet, and those of chapter
// 13.
func crowds() []office {
	list := offices()
	random := rand.New(rand.NewSource(15))
	for range 600 {
		list = append(list, drawnCrowd(random))
	}
	return list
}

func wantIsAttempts(t *testing.T, p position, l []impl.Attempt, want bool) {
	t.Helper()
	if is, ok := p.isAttempts(l); !ok || is != want {
		t.Errorf("IsAttempts of %v in %v: %v, %v, want %v", l, p, is, ok, want)
	}
}

// wantReasons requires a list of attempts to be valid and to have these reasons.
func wantReasons(t *testing.T, p position, l []impl.Attempt, want ...int) {
	t.Helper()
	what := fmt.Sprint(" of ", l, " in ", p)
	wantIsAttempts(t, p, l, true)
	if len(l) != len(want) {
		t.Fatalf("%d reasons are wanted%s", len(want), what)
	}
	var refused []int
	for i, reason := range want {
		n, ok := p.reason(l, i)
		wantNumber(t, fmt.Sprint("AttemptReason ", i, what), n, ok, reason)
		if reason != impl.ReGo {
			refused = append(refused, i)
		}
	}
	list, ok := p.refused(l)
	wantList(t, "RefusedIn"+what, list, ok, refused)
	for _, i := range []int{-1, len(l)} {
		n, ok := p.reason(l, i)
		wantZero(t, fmt.Sprint("AttemptReason ", i, what), ok, n)
	}
}

// wantSettled requires the attempts of these units to remain, which are settled
// already, and their state.
func wantSettled(t *testing.T, p position, l []impl.Attempt, rounds int, units ...int) {
	t.Helper()
	what := fmt.Sprint(" of ", l, " in ", p)
	var remaining []impl.Attempt
	after := copyState(p.state)
	for _, a := range l {
		if slices.Contains(units, a.Unit) {
			remaining = append(remaining, a)
			after.Units[a.Unit].At = a.To
		}
	}
	list, n, ok := p.settle(l)
	if !ok || n != rounds || !slices.Equal(list, remaining) || len(list) != len(units) {
		t.Errorf("SettleAttempts%s: %v, %d, %v, want the units %v after %d rounds", what, list, n, ok, units, rounds)
	}
	s, ok := p.do(l)
	wantChanged(t, "DoAttempts"+what, p.board, s, ok, after)
	wantReasons(t, p, list, make([]int, len(list))...)
	again, n, ok := p.settle(list)
	if !ok || n != 0 || !slices.Equal(again, list) {
		t.Errorf("SettleAttempts again%s: %v, %d, %v", what, again, n, ok)
	}
	s, ok = p.do(list)
	wantChanged(t, "DoAttempts again"+what, p.board, s, ok, after)
}

// wantNoAttempts requires a list not to be valid: all other functions fail.
func wantNoAttempts(t *testing.T, p position, l []impl.Attempt) {
	t.Helper()
	wantIsAttempts(t, p, l, false)
	wantAttemptCallsFail(t, p, l)
}

func wantAttemptCallsFail(t *testing.T, p position, l []impl.Attempt) {
	t.Helper()
	what := fmt.Sprint(" of ", l, " in ", p)
	for i := -1; i <= min(len(l), 13); i++ {
		n, ok := p.reason(l, i)
		wantZero(t, fmt.Sprint("AttemptReason ", i, what), ok, n)
	}
	list, ok := p.refused(l)
	wantZero(t, "RefusedIn"+what, ok, list)
	remaining, n, ok := p.settle(l)
	wantZero(t, "SettleAttempts"+what, ok, remaining, n)
	s, ok := p.do(l)
	wantZero(t, "DoAttempts"+what, ok, s)
}

// wantAnyAttempts requires the results of all functions for a list of attempts to
// be those of the definitions.
func wantAnyAttempts(t *testing.T, w office, l []impl.Attempt) {
	t.Helper()
	if !w.areAttemptsBySearch(l) {
		wantNoAttempts(t, w.position, l)
		return
	}
	var reasons, units []int
	for i := range l {
		reasons = append(reasons, w.reasonBySearch(l, i))
	}
	wantReasons(t, w.position, l, reasons...)
	remaining, rounds, _ := w.settledBySearch(l)
	for _, a := range remaining {
		units = append(units, a.Unit)
	}
	wantSettled(t, w.position, l, rounds, units...)
}

// wantZoneReason requires a reason, or a failure if it is -1.
func wantZoneReason(t *testing.T, p position, u, d int, moved bool, want int) {
	t.Helper()
	n, ok := p.zone(u, d, moved)
	if ok != (want != -1) || n != max(want, 0) {
		t.Errorf("ZoneReason of unit %d in direction %d, moved %v, in %v: %d, %v, want %d", u, d, moved, p, n, ok, want)
	}
}

// wantAttemptsAt requires a valid list of attempts.
func wantAttemptsAt(t *testing.T, p position, orders []impl.Order, done []int, want ...impl.Attempt) {
	t.Helper()
	list, ok := p.attempts(orders, done...)
	if !ok || !slices.Equal(list, want) {
		t.Errorf("AttemptsAt of %v after %v in %v: %v, %v, want %v", orders, done, p, list, ok, want)
	}
	wantIsAttempts(t, p, list, true)
}

func wantNoAttemptsAt(t *testing.T, p position, orders []impl.Order, done ...int) {
	t.Helper()
	list, ok := p.attempts(orders, done...)
	wantZero(t, fmt.Sprint("AttemptsAt of ", orders, " after ", done, " in ", p), ok, list)
}

func wantAnyAttemptsAt(t *testing.T, w office, orders []impl.Order, done []int) {
	t.Helper()
	if list, ok := w.attemptsBySearch(orders, done); ok {
		wantAttemptsAt(t, w.position, orders, done, list...)
	} else {
		wantNoAttemptsAt(t, w.position, orders, done...)
	}
}

// wantResolved requires the results of ResolveMovement, of which the state has
// the units in these hexes.
func wantResolved(t *testing.T, p position, x, y impl.Sheet, hexes []int, want ...impl.Moved) {
	t.Helper()
	after := copyState(p.state)
	for u, at := range hexes {
		after.Units[u].At = at
	}
	if len(hexes) != len(after.Units) {
		t.Fatalf("%d hexes are wanted in %v", len(hexes), p)
	}
	what := fmt.Sprint("ResolveMovement of ", x, " and ", y, " in ", p)
	s, list, ok := p.resolve(x, y)
	wantChanged(t, what, p.board, s, ok, after)
	if !slices.Equal(list, want) {
		t.Errorf("%s: %v, want %v", what, list, want)
	}
}

func wantNotResolved(t *testing.T, p position, x, y impl.Sheet) {
	t.Helper()
	s, list, ok := p.resolve(x, y)
	wantZero(t, fmt.Sprint("ResolveMovement of ", x, " and ", y, " in ", p), ok, s, list)
}

// wantAnyResolved requires the results of ResolveMovement to be those of its
// contract.
func wantAnyResolved(t *testing.T, w office, x, y impl.Sheet) {
	t.Helper()
	if x.Side != 0 || y.Side != 1 || !w.isSheetBySearch(x) || !w.isSheetBySearch(y) {
		wantNotResolved(t, w.position, x, y)
		return
	}
	after, list := w.resolvedBySearch(x, y)
	var hexes []int
	for _, v := range after.Units {
		hexes = append(hexes, v.At)
	}
	wantResolved(t, w.position, x, y, hexes, list...)
}
