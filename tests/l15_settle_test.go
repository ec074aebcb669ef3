package tests

import (
	"fmt"
	"math/rand"
	"slices"
	"testing"

	"loop.example/g00886/impl"
)

// The document's example: two enemies attempt to exchange their hexes; a unit
// enters a hex that an enemy leaves, unless this one is refused by another one;
// and two enemies enter the same empty hex.
func TestAttemptExamples(t *testing.T) {
	for side := range 2 {
		p := lane(4, unit(side, guard, 0, 1), unit(1-side, guard, 1, 1), unit(side, guard, 3, 1))
		wantReasons(t, p, p.tries(0, 1, 1, 0), impl.ReSwap, impl.ReSwap)
		wantReasons(t, p, p.tries(0, 1, 1, 2), impl.ReGo, impl.ReGo)
		wantSettled(t, p, p.tries(0, 1, 1, 2), 0, 0, 1)
		held := p.tries(0, 1, 1, 2, 2, 2)
		wantReasons(t, p, held, impl.ReGo, impl.ReClash, impl.ReClash)
		wantSettled(t, p, held, 2)
		wantReasons(t, p, held[:1], impl.ReEnemy)
		wantReasons(t, p, held[1:], impl.ReClash, impl.ReClash)
	}
}

// queueWay is a line of hexes that bends, on a map of ten columns.
var queueWay = []int{0, 1, 2, 3, 4, 5, 6, 7, 8, 9, 19, 18, 17}

// queue returns a position in which n units are in a line, one in each hex, and
// the attempts of all but the last one to go to the next hex.
func queue(n int, sideOf func(u int) int) (position, []impl.Attempt) {
	p := position{frontBoard(10, make([]int, 20)...), stateOf()}.stacking(1)
	var l []impl.Attempt
	for u := range n {
		p.state.Units = append(p.state.Units, unit(sideOf(u), scout, queueWay[u], 1))
		l = append(l, attempt(u, queueWay[u], queueWay[u+1]))
	}
	return p, l[:n-1]
}

// The last unit of a queue stays: one after the other is refused, from the end to
// the beginning. If the last one goes as well, all of them do.
func TestSettlingRoundByRound(t *testing.T) {
	for n := 1; n <= 12; n++ {
		for pattern := range 3 {
			p, l := queue(n, func(u int) int { return []int{0, u % 2, u / 2 % 2}[pattern] })
			for rest := len(l); rest > 0; rest-- {
				want := make([]int, rest)
				want[rest-1] = impl.ReStack
				if p.state.Units[rest-1].Side != p.state.Units[rest].Side {
					want[rest-1] = impl.ReEnemy
				}
				wantReasons(t, p, l[:rest], want...)
				wantSettled(t, p, l[:rest], rest)
			}
			wantSettled(t, p, append(l, attempt(n-1, queueWay[n-1], queueWay[n])), 0, firstUnits(n)...)
		}
	}
}

// In a ring, each unit goes to the hex of the next one, until one of them stays.
func TestSettlingRings(t *testing.T) {
	for sides := range 1 << 6 {
		p := position{plainFront(), stateOf(scouts(aroundMiddle...)...)}.stacking(1)
		for u := range p.state.Units {
			p.state.Units[u].Side = sides >> u & 1
		}
		var l []impl.Attempt
		for u := range 6 {
			l = append(l, p.tries(u, aroundMiddle[(u+1)%6])...)
		}
		wantSettled(t, p, l, 0, 0, 1, 2, 3, 4, 5)
		for u := range 6 {
			wantSettled(t, p, withoutIndex(l, u), 5)
		}
	}
}

// A refusal is final: what was refused may have no reason against it any more at
// the end.
func TestParadoxRule(t *testing.T) {
	// Both are refused for each other's sake, and nobody enters the hex.
	p := lane(3, scouts(0, ^2)...)
	wantSettled(t, p, p.tries(0, 1, 1, 1), 1)
	wantSettled(t, p, p.tries(0, 1), 0, 0)
	wantSettled(t, p, p.tries(1, 1), 0, 1)
	// The unit 1 and an enemy are refused for each other's sake. Both stay, so that
	// the units behind them are refused in the next round, and still nobody enters
	// the hex 2.
	p = lane(5, scouts(0, 3, ^1, 4)...).stacking(1)
	l := p.tries(0, 1, 1, 2, 2, 2, 3, 3)
	wantReasons(t, p, l, 0, impl.ReClash, impl.ReClash, 0)
	wantReasons(t, p, p.tries(0, 1, 3, 3), impl.ReEnemy, impl.ReStack)
	wantSettled(t, p, l, 2)
	wantReasons(t, p, l[1:2], impl.ReGo)
	wantSettled(t, p, p.tries(0, 1, 1, 2, 3, 3), 1, 1, 3)
	// With more room in the stack, the unit 3 goes.
	wantSettled(t, p.stacking(2), l, 2, 3)
}

// traffic returns a position with Stack 1 and attempts of which the last one, of
// the unit 5, is refused because of the unit 4, which has a smaller index and goes
// to the same hex, the middle. Later, the enemy there does not leave it, and the
// unit 4 is refused as well.
//
//	0 unit 3  1 unit 5  2 unit 0
//	3 unit 4  4 unit 2  5 unit 1
func traffic() (position, []impl.Attempt) {
	p := position{frontBoard(3, make([]int, 6)...), stateOf(scouts(^2, ^5, ^middle, 0, 3, 1)...)}.stacking(1)
	return p, p.tries(1, 2, 2, 5, 4, middle, 5, middle)
}

func TestSettlingTraffic(t *testing.T) {
	p, l := traffic()
	wantReasons(t, p, l, impl.ReStack, impl.ReGo, impl.ReGo, impl.ReStack)
	wantReasons(t, p, l[1:3], impl.ReStack, impl.ReGo)
	wantReasons(t, p, l[2:], impl.ReEnemy, impl.ReEnemy)
	wantSettled(t, p, l, 3)
	wantSettled(t, p, l[1:3], 2)
	// Without the unit 0, all go but the last one.
	p.state.Units[0].At = -1
	wantSettled(t, p, l, 1, 1, 2, 4)
	wantSettled(t, p, slices.Concat(l[:2], l[3:]), 0, 1, 2, 5)
}

// Settled attempts have no reason against them, they end in a valid state, and
// what was refused had a reason when it was: in each round, RefusedIn tells who
// is refused next.
func TestDrawnSettlements(t *testing.T) {
	random := rand.New(rand.NewSource(153))
	counts := map[int]int{}
	for _, w := range crowds() {
		for range 3 {
			l := drawnAttempts(random, w)
			rest, rounds := slices.Clone(l), 0
			for {
				refused, ok := w.refused(rest)
				if !ok {
					t.Fatalf("RefusedIn of %v in %v fails", rest, w.position)
				}
				if len(refused) == 0 {
					break
				}
				for _, i := range slices.Backward(refused) {
					rest = withoutIndex(rest, i)
				}
				rounds++
			}
			var units []int
			for _, a := range rest {
				units = append(units, a.Unit)
			}
			wantSettled(t, w.position, l, rounds, units...)
			counts[rounds]++
		}
	}
	for rounds := range 5 {
		if counts[rounds] < 10 {
			t.Errorf("%d lists have %d rounds: %v", counts[rounds], rounds, counts)
		}
	}
}

// The paradox rule decides: in some drawn lists, something that was refused has
// no reason against it after the end.
func TestDrawnParadoxes(t *testing.T) {
	random := rand.New(rand.NewSource(154))
	count := 0
	for _, w := range crowds() {
		l := drawnAttempts(random, w)
		remaining, _, ok := w.settle(l)
		if !ok {
			t.Fatalf("SettleAttempts of %v in %v fails", l, w.position)
		}
		for _, a := range l {
			if slices.Contains(remaining, a) {
				continue
			}
			with := append(slices.Clone(remaining), a)
			slices.SortFunc(with, func(x, y impl.Attempt) int { return x.Unit - y.Unit })
			if w.reasonBySearch(with, slices.Index(with, a)) == impl.ReGo {
				count++
			}
		}
	}
	if count < 100 {
		t.Errorf("only %d refusals have no reason at the end", count)
	}
}

// Which side has the number 0 plays no part.
func TestSettlingSwappedSides(t *testing.T) {
	random := rand.New(rand.NewSource(155))
	for _, w := range crowds() {
		l := drawnAttempts(random, w)
		s, ok := impl.SwapSides(w.board, w.state)
		if !ok {
			t.Fatalf("SwapSides of %v fails", w.position)
		}
		first, rounds, _ := w.settle(l)
		second, again, ok := position{w.board, s}.settle(l)
		if !ok || rounds != again || !slices.Equal(first, second) {
			t.Errorf("%v in %v: %v, %d and %v, %d", l, w.position, first, rounds, second, again)
		}
	}
}

// The weather, the turn and the steps of units do not matter for attempts.
func TestWeatherOfAttempts(t *testing.T) {
	random := rand.New(rand.NewSource(156))
	for _, w := range crowds()[:200] {
		l := drawnAttempts(random, w)
		want := fmt.Sprint(w.settle(l))
		for weather := range 3 {
			p := w.position.in(weather)
			p.state.Turn = w.board.Rules.Turns - w.state.Turn
			if now := fmt.Sprint(p.settle(l)); now != want {
				t.Errorf("SettleAttempts of %v in %v: %s, want %s", l, p, now, want)
			}
			s, ok := p.do(l)
			if !ok || s.Weather != weather || s.Turn != p.state.Turn {
				t.Errorf("DoAttempts of %v in %v: %v, %v", l, p, s, ok)
			}
		}
	}
}
