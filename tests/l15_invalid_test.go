package tests

import (
	"fmt"
	"math/rand"
	"slices"
	"sync"
	"testing"

	"loop.example/g00886/impl"
)

// someAttempts are lists of attempts that are valid somewhere, and others.
func someAttempts() [][]impl.Attempt {
	return [][]impl.Attempt{nil, {attempt(0, 0, 1)}, {attempt(0, 0, 1), attempt(1, 2, 1)}, {attempt(-1, -1, -1)}, {attempt(0, -1, 0)}, slices.Repeat([]impl.Attempt{attempt(0, 0, 1)}, 13)}
}

// wantContestFails requires every function of the chapter with a board and a
// state to fail.
func wantContestFails(t *testing.T, p position) {
	t.Helper()
	what := fmt.Sprint(" in ", p)
	for _, l := range someAttempts() {
		is, ok := p.isAttempts(l)
		wantZero(t, fmt.Sprint("IsAttempts of ", l, what), ok, is)
		wantAttemptCallsFail(t, p, l)
	}
	for u := -1; u <= min(len(p.state.Units), 13); u++ {
		for d := -1; d <= 6; d++ {
			wantZoneReason(t, p, u, d, d%2 == 0, -1)
		}
		wantNoAttemptsAt(t, p, []impl.Order{order(u, -1, 0)}, 0)
	}
	wantNoAttemptsAt(t, p, nil)
	for _, x := range someSheets() {
		wantNotResolved(t, p, x, sheet(1))
		wantNotResolved(t, p, sheet(0), x)
	}
}

func TestAttemptsInInvalidStates(t *testing.T) {
	for _, s := range invalidStates() {
		wantContestFails(t, position{campBoard(), s})
	}
}

func TestAttemptsOnInvalidBoards(t *testing.T) {
	for _, b := range invalidBoards() {
		for _, s := range []impl.State{stateOf(), stateOf(unit(0, 0, -1, 1)), stateOf(unit(0, 0, 0, 1), unit(1, 0, -1, 1)), {Turn: -1}} {
			wantContestFails(t, position{b, s})
		}
	}
}

// Attempts and orders of a state are made on a board for which it is valid.
func TestAttemptsOnOtherBoards(t *testing.T) {
	random := rand.New(rand.NewSource(1510))
	list := offices()
	counts := map[bool]int{}
	for n, w := range list {
		p := position{list[(n+1)%len(list)].board, w.state}
		valid := validBySearch(p.board, p.state)
		counts[valid]++
		if valid {
			other := officeOf(p)
			wantAnyAttempts(t, other, drawnAttempts(random, w))
			wantAnyResolved(t, other, drawnSheet(random, w, 0), drawnSheet(random, w, 1))
		} else {
			wantContestFails(t, p)
		}
	}
	if counts[true] < 20 || counts[false] < 20 {
		t.Errorf("valid and invalid states: %v", counts)
	}
}

func TestInvalidIndicesOfAttempts(t *testing.T) {
	p := lane(4, scouts(0, ^1, 3)...)
	l := p.tries(0, 1, 1, 0, 2, 2)
	for _, i := range append([]int{3, 4, 12, 13, -2, -3, 1 << 32, 1<<32 + 1, -1 << 32}, outside...) {
		n, ok := p.reason(l, i)
		wantZero(t, fmt.Sprint("AttemptReason ", i), ok, n)
		n, ok = p.reason(nil, i)
		wantZero(t, fmt.Sprint("AttemptReason of none ", i), ok, n)
	}
}

// Each sheet has to be valid and to be that of its side.
func TestSheetsOfMovements(t *testing.T) {
	p := parade()
	x, y := sheet(0, order(0, -1, 0), order(3, -1, 0)), sheet(1, order(1, -1, 3))
	hexes := []int{1, 4, -1, 2, -1}
	wantResolved(t, p, x, y, hexes, moved(0, 1, 0), moved(1, 1, 0), moved(3, 1, 0))
	for _, pair := range [][2]impl.Sheet{{y, x}, {x, x}, {y, y}, {sheet(1), sheet(0)}, {sheet(0), sheet(0)}, {sheet(1), sheet(1)}, {x, sheet(0)}, {sheet(1), y}} {
		wantNotResolved(t, p, pair[0], pair[1])
	}
	for _, side := range badSides {
		wantNotResolved(t, p, sheet(side, x.Orders...), y)
		wantNotResolved(t, p, x, sheet(side, y.Orders...))
		wantNotResolved(t, p, sheet(side), sheet(1))
		wantNotResolved(t, p, sheet(0), sheet(side))
	}
	off := slices.Repeat([]int{0, 3}, 5)
	for _, bad := range [][]impl.Order{
		{order(1, -1)}, {order(2, -1)}, {order(5, -1)}, {order(-1, -1)}, {order(0, -1), order(0, -1)}, {order(3, -1), order(0, -1)}, {order(0, -1, 3)}, {order(0, -1, 6)},
		{order(0, -1, 0), order(3, -1, 1)}, {order(0, -1, 0, 0, 0, 0)}, {order(0, 3)}, {order(0, -2, 0)}, {order(0, -1, off...)}, staying(make([]int, 13)...),
	} {
		wantNotResolved(t, p, sheet(0, bad...), y)
		wantNotResolved(t, p, sheet(0, bad...), sheet(1))
	}
	for _, bad := range [][]impl.Order{{order(0, -1)}, {order(3, -1)}, {order(4, -1)}, {order(1, -1), order(1, -1)}, {order(1, -1, 0)}, {order(1, 5)}, {order(1, -1, 3, 3, 3, 3)}, {order(1, -1, -1)}} {
		wantNotResolved(t, p, x, sheet(1, bad...))
		wantNotResolved(t, p, sheet(0), sheet(1, bad...))
	}
}

// Drawn sheets of which all may be wrong.
func TestDrawnSheetsOfMovements(t *testing.T) {
	random := rand.New(rand.NewSource(1511))
	counts := map[bool]int{}
	for _, w := range offices() {
		x, y := drawnSheet(random, w, 0), drawnSheet(random, w, 1)
		bad := []*impl.Sheet{&x, &y}[random.Intn(2)]
		for range 10 {
			kept := copySheet(*bad)
			bad.Orders = append(bad.Orders, anyOrder(random, w))
			if random.Intn(8) == 0 {
				bad.Side = random.Intn(3)
			}
			slices.SortFunc(bad.Orders, func(o, k impl.Order) int { return o.Unit - k.Unit })
			wantAnyResolved(t, w, x, y)
			counts[w.isSheetBySearch(x) && w.isSheetBySearch(y) && y.Side-x.Side == 1]++
			*bad = kept
		}
	}
	if counts[true] < 100 || counts[false] < 1000 {
		t.Errorf("valid and invalid sheets: %v", counts)
	}
}

// attemptsWithSpare returns a list with attempts behind its length, with which it
// would be another one.
func attemptsWithSpare(l []impl.Attempt) []impl.Attempt {
	return slices.Concat(l, []impl.Attempt{attempt(11, 0, 1), attempt(0, 0, 1), attempt(-7, 7, 7)})[:len(l)]
}

func overwriteAttempts(l []impl.Attempt) {
	l = l[:cap(l)]
	for i := range l {
		l[i] = attempt(-99, -99, -99)
	}
}

func overwriteMoved(l []impl.Moved) {
	l = l[:cap(l)]
	for i := range l {
		l[i] = moved(-99, -99, -99)
	}
}

// affair is what the functions of the chapter are called with.
type affair struct {
	position
	list []impl.Attempt
	x, y impl.Sheet
	done []int
}

// withSpare returns the affair with spare capacity behind each list.
func (a affair) withSpare() affair {
	a.board, a.state = boardWithSpare(a.board), stateWithSpare(a.state)
	a.list, a.x, a.y = attemptsWithSpare(a.list), sheetWithSpare(a.x), sheetWithSpare(a.y)
	a.done = slices.Concat(a.done, []int{0, 1, 0})[:len(a.done)]
	return a
}

// whole tells all lists with what is behind them.
func (a affair) whole() string {
	return fmt.Sprint(wholeOf(a.board), wholeState(a.state), len(a.list), a.list[:cap(a.list)], wholeSheet(a.x), wholeSheet(a.y), len(a.done), a.done[:cap(a.done)])
}

// results tells what all functions return, and overwrites and extends it.
func (a affair) results() string {
	text := fmt.Sprint(a.isAttempts(a.list))
	for i := -1; i <= min(len(a.list), 13); i++ {
		text += fmt.Sprint(a.reason(a.list, i))
	}
	refused, ok := a.refused(a.list)
	text += fmt.Sprint(refused, ok)
	overwrite(refused)
	remaining, rounds, ok := a.settle(a.list)
	text += fmt.Sprint(remaining, rounds, ok)
	overwriteAttempts(remaining)
	s, ok := a.do(a.list)
	text += fmt.Sprint(s, ok)
	overwriteState(s)
	for u := -1; u <= min(len(a.state.Units), 13); u++ {
		for d := -1; d <= 6; d++ {
			text += fmt.Sprint(a.zone(u, d, false)) + fmt.Sprint(a.zone(u, d, true))
		}
	}
	for _, orders := range [][]impl.Order{a.x.Orders, a.y.Orders} {
		list, ok := a.attempts(orders, a.done...)
		text += fmt.Sprint(list, ok)
		overwriteAttempts(list)
	}
	s, list, ok := a.resolve(a.x, a.y)
	text += fmt.Sprint(s, list, ok)
	overwriteState(s)
	overwriteMoved(list)
	return text
}

// affairs returns drawn ones, and such of which nearly nothing is valid.
func affairs() []affair {
	random := rand.New(rand.NewSource(1512))
	var list []affair
	for _, w := range crowds() {
		a := affair{w.position, drawnAttempts(random, w), drawnSheet(random, w, 0), drawnSheet(random, w, 1), nil}
		a.done = make([]int, len(a.x.Orders))
		list = append(list, a)
	}
	for n, s := range invalidStates() {
		x := someSheets()[n%10]
		list = append(list, affair{position{campBoard(), s}, someAttempts()[n%6], x, sheet(1), make([]int, len(x.Orders))})
	}
	for n, b := range invalidBoards() {
		x := someSheets()[n%10]
		list = append(list, affair{position{b, stateOf(unit(0, 0, 0, 1))}, someAttempts()[n%6], x, sheet(1), make([]int, len(x.Orders))})
	}
	return list
}

// No argument is changed, what is behind its lists plays no part, and the same
// arguments have the same results, also after these were overwritten.
func TestMovementsChangeNothing(t *testing.T) {
	for _, a := range affairs() {
		want := a.results()
		given := a.withSpare()
		kept := given.whole()
		for range 2 {
			if now := given.results(); now != want {
				t.Fatalf("the results of %v are %s, want %s", a, now, want)
			}
			if now := given.whole(); now != kept {
				t.Fatalf("%s is changed to %s", kept, now)
			}
		}
	}
}

// Many calls at the same time do not get into each other's way.
func TestMovementsAtOnce(t *testing.T) {
	list := affairs()[:200]
	var want []string
	for _, a := range list {
		want = append(want, a.results())
	}
	got := make([]string, len(list))
	var calls sync.WaitGroup
	for n, a := range list {
		calls.Go(func() { got[n] = a.results() })
	}
	calls.Wait()
	for n := range list {
		if got[n] != want[n] {
			t.Errorf("the results of %v are %s, want %s", list[n], got[n], want[n])
		}
	}
}

// part is a result that tells what it is, and that can be overwritten.
type part struct {
	tell  func() string
	spoil func()
}

func (a affair) parts() []part {
	refused, _ := a.refused(a.list)
	remaining, _, _ := a.settle(a.list)
	s, _ := a.do(a.list)
	steps, _ := a.attempts(a.x.Orders, a.done...)
	after, list, _ := a.resolve(a.x, a.y)
	return []part{
		{func() string { return fmt.Sprint(refused) }, func() { overwrite(refused) }},
		{func() string { return fmt.Sprint(remaining) }, func() { overwriteAttempts(remaining) }},
		{func() string { return fmt.Sprint(s) }, func() { overwriteState(s) }},
		{func() string { return fmt.Sprint(steps) }, func() { overwriteAttempts(steps) }},
		{func() string { return fmt.Sprint(after) }, func() { overwriteState(after) }},
		{func() string { return fmt.Sprint(list) }, func() { overwriteMoved(list) }},
	}
}

// A result shares no memory with an argument nor with another result, be it one
// of the same call, of another function or of the same function once more.
func TestResultsOfMovementsAreNew(t *testing.T) {
	for _, a := range affairs() {
		parts := append(a.parts(), a.parts()...)
		tell := func() string {
			text := a.whole()
			for _, p := range parts {
				text += p.tell()
			}
			return text
		}
		for len(parts) > 0 {
			spoilt := parts[0]
			parts = parts[1:]
			kept := tell()
			spoilt.spoil()
			if now := tell(); now != kept {
				t.Fatalf("%s is changed to %s", kept, now)
			}
		}
	}
}

// States are new also where no unit moves.
func TestStatesOfMovementsAreNew(t *testing.T) {
	for _, w := range crowds() {
		if len(w.state.Units) == 0 {
			continue
		}
		l := drawnAttempts(rand.New(rand.NewSource(1513)), w)
		for name, call := range map[string]func() (impl.State, bool){
			"DoAttempts":         func() (impl.State, bool) { return w.do(l) },
			"DoAttempts of none": func() (impl.State, bool) { return w.do(nil) },
			"ResolveMovement of no orders": func() (impl.State, bool) {
				s, _, ok := w.resolve(sheet(0), sheet(1))
				return s, ok
			},
			"ResolveMovement of no steps": func() (impl.State, bool) {
				s, _, ok := w.resolve(sheet(0, staying(w.unitsInPlay(0)...)...), sheet(1))
				return s, ok
			},
		} {
			wantNewState(t, name, w.state, call)
		}
	}
}

// Any numbers are accepted without a panic, and results and failures are those of
// the definitions.
func TestAnyNumbersForMovements(t *testing.T) {
	random := rand.New(rand.NewSource(1514))
	numbers := append([]int{0, 0, 1, 1, 2, 3, 4, 5, 6, 8, 9, 12, 13, 1 << 32}, outside...)
	draw := func() int { return numbers[random.Intn(len(numbers))] }
	valid := 0
	for range 4000 {
		p := position{plainFront(), stateOf(unit(0, guard, random.Intn(9), 1), unit(1, scout, random.Intn(10)-1, 1), unit(0, guard, random.Intn(9), 2))}
		switch random.Intn(4) {
		case 0:
			p.board.Map.Width, p.board.Map.Roads, p.board.Rules.Stack = draw(), []int{draw()}, draw()
		case 1:
			p.state.Units = append(p.state.Units, unit(draw(), draw(), draw(), draw()))
		}
		l := []impl.Attempt{attempt(draw(), draw(), draw())}
		orders := []impl.Order{order(draw(), draw(), draw(), draw())}
		if random.Intn(2) == 0 {
			l = []impl.Attempt{attempt(0, p.state.Units[0].At, draw()), attempt(random.Intn(3), p.state.Units[1].At, draw())}
			orders = []impl.Order{order(0, -1, random.Intn(6)), order(random.Intn(4), draw(), draw())}
		}
		x := sheet(random.Intn(2), orders[0])
		if !impl.IsBoard(p.board) || !validBySearch(p.board, p.state) {
			wantContestFails(t, p)
		} else {
			valid++
			w := officeOf(p)
			wantAnyAttempts(t, w, l)
			wantAnyAttemptsAt(t, w, orders, slices.Repeat([]int{draw()}, 1+random.Intn(2)))
			wantAnyResolved(t, w, x, sheet(1))
			wantAnyResolved(t, w, sheet(0), x)
			u, d := draw(), draw()
			wantZoneReason(t, p, u, d, true, w.zoneBySearch(surveyOf(p), u, d, true))
		}
		affair{p, l, x, sheet(draw(), orders...), []int{draw()}}.results()
	}
	if valid < 1000 || valid > 3000 {
		t.Errorf("%d positions are valid", valid)
	}
}
