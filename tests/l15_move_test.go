package tests

import (
	"fmt"
	"math/rand"
	"slices"
	"testing"

	"loop.example/g00886/impl"
)

// Without orders, nothing happens.
func TestMovementWithoutOrders(t *testing.T) {
	for _, w := range crowds() {
		var hexes []int
		for _, v := range w.state.Units {
			hexes = append(hexes, v.At)
		}
		wantResolved(t, w.position, sheet(0), sheet(1), hexes)
		wantResolved(t, w.position, impl.Sheet{Orders: []impl.Order{}}, sheet(1), hexes)
	}
}

// Orders of one side alone, those of no step among them.
func TestMovementOfOneSide(t *testing.T) {
	p := lane(10, scouts(0, 2, 4, ^9)...)
	wantResolved(t, p, sheet(0, order(0, -1, 0, 0, 0)), sheet(1), []int{3, 2, 4, 9}, moved(0, 3, 0))
	wantResolved(t, p, sheet(0, order(0, 1), order(2, -1)), sheet(1), []int{0, 2, 4, 9}, moved(0, 0, 0), moved(2, 0, 0))
	wantResolved(t, p, sheet(0, order(1, 1), order(2, 3, 0, 3, 0, 0, 3, 3)), sheet(1), []int{0, 2, 4, 9}, moved(1, 0, 0), moved(2, 6, 0))
	wantResolved(t, p, sheet(0), sheet(1, order(3, 5, 3, 3, 3)), []int{0, 2, 4, 6}, moved(3, 3, 0))
	wantResolved(t, p, sheet(0, order(0, -1, 0), order(1, -1, 0), order(2, -1, 0)), sheet(1), []int{1, 3, 5, 9}, moved(0, 1, 0), moved(1, 1, 0), moved(2, 1, 0))
	p = lane(10, scouts(0)...)
	for n := range 10 {
		wantResolved(t, p, sheet(0, order(0, -1, make([]int, n)...)), sheet(1), []int{n}, moved(0, n, 0))
	}
}

// The orders of both sides are told by increasing units, whatever their sides.
func TestOrderOfMoved(t *testing.T) {
	for sides := range 1 << 4 {
		p := position{frontBoard(2, make([]int, 8)...), stateOf(scouts(0, 2, 4, 6)...)}.moving(9)
		sheets := []impl.Sheet{sheet(0), sheet(1)}
		var want []impl.Moved
		for u := range p.state.Units {
			side := sides >> u & 1
			p.state.Units[u].Side = side
			path := []int{0, 3, 0, 3, 0}[:2*(u%2)+1]
			sheets[side].Orders = append(sheets[side].Orders, order(u, -1, path...))
			want = append(want, moved(u, len(path), impl.ReGo))
		}
		wantResolved(t, p, sheets[0], sheets[1], []int{1, 3, 5, 7}, want...)
	}
}

// A unit stops in the first hex in a zone, unless its path ends there.
func TestMovementIntoZones(t *testing.T) {
	for _, kind := range []int{guard, scout} {
		p := lane(8, unit(0, kind, 0, 1), unit(1, guard, 5, 1))
		for n := range 10 {
			path := []int{0, 0, 0, 0, 3, 3, 0, 3, 0}[:n]
			end, reason := min(n, 4), impl.ReZone
			if n <= 4 {
				reason = impl.ReGo
			}
			wantResolved(t, p, sheet(0, order(0, -1, path...)), sheet(1), []int{end, 5}, moved(0, end, reason))
		}
		// It stops also before it would leave the zone.
		wantResolved(t, p, sheet(0, order(0, -1, 0, 0, 0, 0, 3)), sheet(1), []int{4, 5}, moved(0, 4, impl.ReZone))
		// A unit without a zone stops nobody.
		p.state.Units[1].Kind = scout
		wantResolved(t, p, sheet(0, order(0, -1, 0, 0, 0, 0, 3)), sheet(1), []int{3, 5}, moved(0, 5, impl.ReGo))
		wantResolved(t, p, sheet(0, order(0, -1, 0, 0, 0, 0, 0)), sheet(1), []int{4, 5}, moved(0, 4, impl.ReEnemy))
	}
}

// A unit leaves the zone in which it begins, but not into the same one.
func TestMovementOutOfZones(t *testing.T) {
	p := position{plainFront(), stateOf(unit(0, scout, 4, 1), unit(1, guard, 1, 1), unit(0, scout, 3, 1))}.moving(9)
	wantResolved(t, p, sheet(0, order(0, -1, 0, 4, 3)), sheet(1), []int{6, 1, 3}, moved(0, 3, impl.ReGo))
	wantResolved(t, p, sheet(0, order(0, -1, 3)), sheet(1), []int{4, 1, 3}, moved(0, 0, impl.ReZone))
	wantResolved(t, p, sheet(0, order(0, -1, 0, 3)), sheet(1), []int{4, 1, 3}, moved(0, 2, impl.ReGo))
	wantResolved(t, p, sheet(0, order(0, -1, 0, 3, 5)), sheet(1), []int{4, 1, 3}, moved(0, 2, impl.ReZone))
	wantResolved(t, p, sheet(0, order(0, -1, 1), order(2, -1, 5)), sheet(1), []int{4, 1, 6}, moved(0, 0, impl.ReZone), moved(2, 1, impl.ReGo))
	// Into the hex of the enemy, which is not in its own zone.
	wantResolved(t, p, sheet(0, order(0, -1, 2)), sheet(1), []int{4, 1, 3}, moved(0, 0, impl.ReEnemy))
	wantResolved(t, p, sheet(0, order(0, -1, 2)), sheet(1, order(1, -1, 0)), []int{1, 2, 3}, moved(0, 1, impl.ReGo), moved(1, 1, impl.ReGo))
}

// Zones move along with their units.
func TestMovementOfZones(t *testing.T) {
	p := lane(9, unit(0, scout, 0, 1), unit(1, guard, 3, 1))
	march := sheet(0, order(0, -1, 0, 0, 0, 0))
	wantResolved(t, p, march, sheet(1), []int{2, 3}, moved(0, 2, impl.ReZone))
	wantResolved(t, p, march, sheet(1, order(1, -1)), []int{2, 3}, moved(0, 2, impl.ReZone), moved(1, 0, impl.ReGo))
	wantResolved(t, p, march, sheet(1, order(1, -1, 0)), []int{3, 4}, moved(0, 3, impl.ReZone), moved(1, 1, impl.ReGo))
	wantResolved(t, p, march, sheet(1, order(1, -1, 0, 0)), []int{4, 5}, moved(0, 4, impl.ReGo), moved(1, 2, impl.ReGo))
	// It comes towards the unit, which is caught in the middle.
	wantResolved(t, p, march, sheet(1, order(1, -1, 3)), []int{1, 2}, moved(0, 1, impl.ReZone), moved(1, 1, impl.ReGo))
	// Two guards are in each other's zone, and stop.
	p.state.Units[0].Kind = guard
	wantResolved(t, p, march, sheet(1, order(1, -1, 3, 0)), []int{1, 2}, moved(0, 1, impl.ReZone), moved(1, 1, impl.ReZone))
	// At the beginning, each may leave the zone of the other one.
	p.state.Units[1].At = 1
	wantResolved(t, p, sheet(0), sheet(1, order(1, -1, 0, 0, 0)), []int{0, 4}, moved(1, 3, impl.ReGo))
	wantResolved(t, p, march, sheet(1, order(1, -1, 0, 0, 0)), []int{1, 2}, moved(0, 1, impl.ReZone), moved(1, 1, impl.ReZone))
}

// Enemies that meet exchange no hexes and enter no hex together; it depends on
// the distance between both.
func TestMeetings(t *testing.T) {
	for length := 2; length <= 10; length++ {
		p := lane(length, scouts(0, ^(length-1))...)
		steps, reason := (length-2)/2, impl.ReSwap
		if length%2 == 1 {
			reason = impl.ReClash
		}
		path := slices.Repeat([]int{onwards}, length-1)
		back := slices.Repeat([]int{backwards}, length-1)
		wantResolved(t, p, sheet(0, order(0, -1, path...)), sheet(1, order(1, -1, back...)), []int{steps, length - 1 - steps}, moved(0, steps, reason), moved(1, steps, reason))
		// One that comes to rest before is in the way of the other one.
		for n := range steps {
			end := length - 2 - n
			wantResolved(t, p, sheet(0, order(0, -1, path...)), sheet(1, order(1, -1, back[:n]...)), []int{end, end + 1}, moved(0, end, impl.ReEnemy), moved(1, n, impl.ReGo))
		}
		// Units of one side pass each other.
		p.state.Units[1].Side = 0
		wantResolved(t, p, sheet(0, order(0, -1, path...), order(1, -1, back...)), sheet(1), []int{length - 1, 0}, moved(0, length-1, impl.ReGo), moved(1, length-1, impl.ReGo))
	}
}

// A stack that is full stops a unit in its first step or in a later one, and one
// that is finished stays where it is for the others.
func TestMovementIntoStacks(t *testing.T) {
	p := lane(6, scouts(3, 3, 0, 2, ^5)...).stacking(2)
	wantResolved(t, p, sheet(0, order(2, -1, 0, 0, 0, 0)), sheet(1), []int{3, 3, 2, 2, 5}, moved(2, 2, impl.ReStack))
	wantResolved(t, p, sheet(0, order(3, -1, 0)), sheet(1), []int{3, 3, 0, 2, 5}, moved(3, 0, impl.ReStack))
	wantResolved(t, p, sheet(0, order(0, -1, 0), order(2, -1, 0, 0, 0)), sheet(1), []int{4, 3, 3, 2, 5}, moved(0, 1, impl.ReGo), moved(2, 3, impl.ReGo))
	wantResolved(t, p, sheet(0, order(0, -1, 0, 0, 3), order(1, -1, 0), order(2, -1, 0, 0), order(3, -1, 0, 0)), sheet(1, order(4, -1, 3)),
		[]int{3, 3, 2, 2, 5}, moved(0, 0, impl.ReClash), moved(1, 0, impl.ReClash), moved(2, 2, impl.ReGo), moved(3, 0, impl.ReStack), moved(4, 0, impl.ReClash))
}

// The unit that is refused stays, and the one behind it is refused in the same
// round of settling or in a later step.
func TestMovementBehindOthers(t *testing.T) {
	p := lane(8, scouts(0, 1, ^4)...).stacking(1)
	wantResolved(t, p, sheet(0, order(0, -1, 0, 0, 0), order(1, -1, 0, 0, 0)), sheet(1), []int{2, 3, 4}, moved(0, 2, impl.ReStack), moved(1, 2, impl.ReEnemy))
	wantResolved(t, p, sheet(0, order(0, -1, 0, 0, 0), order(1, -1, 0, 0)), sheet(1), []int{2, 3, 4}, moved(0, 2, impl.ReStack), moved(1, 2, impl.ReGo))
	wantResolved(t, p, sheet(0, order(0, -1, 0, 0, 0), order(1, -1, 0, 0, 0)), sheet(1, order(2, -1, 0)), []int{3, 4, 5}, moved(0, 3, impl.ReGo), moved(1, 3, impl.ReGo), moved(2, 1, impl.ReGo))
	wantResolved(t, p, sheet(0, order(0, -1, 0, 0, 0), order(1, -1, 0, 0, 0)), sheet(1, order(2, -1, 3)), []int{1, 2, 3}, moved(0, 1, impl.ReStack), moved(1, 1, impl.ReEnemy), moved(2, 1, impl.ReGo))
	// The unit that goes around through the hex of the one before it.
	wantResolved(t, p, sheet(0, order(0, -1, 0, 3), order(1, -1, 3, 0)), sheet(1), []int{0, 1, 4}, moved(0, 2, impl.ReGo), moved(1, 2, impl.ReGo))
}

// The reasons are those with which attempts were refused, not those of the end.
func TestReasonsOfMovement(t *testing.T) {
	p, l := traffic()
	p = p.moving(9)
	x, y := sheet(0, order(4, -1, 0), order(5, -1, 5)), sheet(1, order(1, -1, 2), order(2, -1, 0))
	wantAttemptsAt(t, p, slices.Concat(y.Orders, x.Orders), make([]int, 4), l...)
	wantReasons(t, p, l[3:], impl.ReEnemy)
	wantResolved(t, p, x, y, []int{2, 5, 4, 0, 3, 1}, moved(1, 0, impl.ReStack), moved(2, 0, impl.ReStack), moved(4, 0, impl.ReEnemy), moved(5, 0, impl.ReStack))
}

// A movement keeps the turn, the weather, the steps of units and those that are
// not on the map; it needs no more moves than the orders.
func TestMovementKeepsTheRest(t *testing.T) {
	p := position{plainFront(), impl.State{Turn: 7, Weather: 2, Units: []impl.Unit{
		unit(1, guard, -1, 2), unit(0, guard, 0, 2), unit(1, boat, -1, 0), unit(1, guard, 8, 1), unit(0, scout, -1, 1),
	}}}
	wantResolved(t, p, sheet(0, order(1, 3, 0)), sheet(1, order(3, -1, 3)), []int{-1, 1, -1, 7, -1}, moved(1, 1, 0), moved(3, 1, 0))
	wantNotResolved(t, p, sheet(0, order(1, -1, 0, 0)), sheet(1))
	wantResolved(t, p.in(0), sheet(0, order(1, -1, 0, 5, 5)), sheet(1), []int{-1, 7, -1, 8, -1}, moved(1, 3, impl.ReGo))
}

// Drawn movements are those of the contract. They end in valid states, each unit
// is where its steps lead, and all reasons occur in a first step and in a later
// one.
func TestDrawnMovements(t *testing.T) {
	random := rand.New(rand.NewSource(158))
	counts := map[string]int{}
	for _, w := range crowds() {
		for range 8 {
			x, y := drawnSheet(random, w, 0), drawnSheet(random, w, 1)
			wantAnyResolved(t, w, x, y)
			s, list, ok := w.resolve(x, y)
			if is, _ := impl.IsState(w.board, s); !is || !ok {
				t.Fatalf("the movement of %v and %v in %v: %v, %v", x, y, w.position, s, ok)
			}
			for _, m := range list {
				o, _ := impl.OrderOf(x, m.Unit)
				if w.state.Units[m.Unit].Side == 1 {
					o, _ = impl.OrderOf(y, m.Unit)
				}
				end, _ := w.wayBySearch(m.Unit, o.Path[:m.Steps])
				wantNumber(t, fmt.Sprint("the hex of unit ", m.Unit, " after ", x, " and ", y, " in ", w.position), s.Units[m.Unit].At, true, end)
				if (m.Steps == len(o.Path)) != (m.Reason == impl.ReGo) {
					t.Errorf("%v after %v", m, o)
				}
				counts[fmt.Sprint(m.Reason, min(m.Steps, 1))]++
			}
		}
	}
	for reason := range 6 {
		for _, steps := range []int{0, 1} {
			if counts[fmt.Sprint(reason, steps)] < 20 {
				t.Errorf("the reason %d after %d steps: %v", reason, steps, counts)
			}
		}
	}
}

// A movement is that of the other functions: one step after the other, of the
// units that neither have made all their steps nor are stopped.
func TestMovementByAttempts(t *testing.T) {
	random := rand.New(rand.NewSource(159))
	for _, w := range crowds() {
		x, y := drawnSheet(random, w, 0), drawnSheet(random, w, 1)
		orders := slices.Concat(x.Orders, y.Orders)
		slices.SortFunc(orders, func(o, k impl.Order) int { return o.Unit - k.Unit })
		p, ends := w.position, map[int]impl.Moved{}
		for steps := 0; len(orders) > 0; steps++ {
			done := slices.Repeat([]int{steps}, len(orders))
			l, ok := p.attempts(orders, done...)
			remaining, _, ok2 := p.settle(l)
			after, ok3 := p.do(l)
			if !ok || !ok2 || !ok3 {
				t.Fatalf("step %d of %v in %v fails", steps, orders, p)
			}
			orders = slices.DeleteFunc(orders, func(o impl.Order) bool {
				isOf := func(a impl.Attempt) bool { return a.Unit == o.Unit }
				if slices.ContainsFunc(remaining, isOf) {
					return false
				}
				ends[o.Unit] = moved(o.Unit, steps, endBySteps(p, l, o, steps))
				return true
			})
			p.state = after
		}
		s, list, ok := w.resolve(x, y)
		if !ok || !sameState(s, p.state) || len(list) != len(ends) {
			t.Fatalf("ResolveMovement of %v and %v in %v: %v, %v, want %v, %v", x, y, w.position, s, list, p.state, ends)
		}
		for _, m := range list {
			if m != ends[m.Unit] {
				t.Errorf("ResolveMovement of %v and %v in %v: %v, want %v", x, y, w.position, m, ends[m.Unit])
			}
		}
	}
}

// endBySteps returns why an order has no attempt after its steps, or the reason
// with which its attempt is refused, in whatever round that is.
func endBySteps(p position, l []impl.Attempt, o impl.Order, steps int) int {
	if steps == len(o.Path) {
		return impl.ReGo
	}
	for {
		i := slices.IndexFunc(l, func(a impl.Attempt) bool { return a.Unit == o.Unit })
		if i < 0 {
			return impl.ReZone
		}
		if reason, _ := p.reason(l, i); reason != impl.ReGo {
			return reason
		}
		refused, _ := p.refused(l)
		for _, k := range slices.Backward(refused) {
			l = withoutIndex(l, k)
		}
	}
}
