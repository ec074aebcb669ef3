package tests

import (
	"math/rand"
	"slices"
	"testing"

	"loop.example/g00886/impl"
)

func TestReasons(t *testing.T) {
	reasons := []int{impl.ReGo, impl.ReEnemy, impl.ReSwap, impl.ReClash, impl.ReStack, impl.ReZone}
	if !slices.Equal(reasons, []int{0, 1, 2, 3, 4, 5}) {
		t.Errorf("the reasons are %v", reasons)
	}
	for reason, name := range []string{"go", "enemy", "swap", "clash", "stack", "zone"} {
		if got := impl.ReasonName(reason); got != name {
			t.Errorf("ReasonName of %d: %q, want %q", reason, got, name)
		}
	}
	for _, reason := range append([]int{6, 7, -2, 256, 1 << 32, 1<<32 + 1, -1 << 32}, outside...) {
		if got := impl.ReasonName(reason); got != "" {
			t.Errorf("ReasonName of %d: %q", reason, got)
		}
	}
}

// Any list without attempts is valid, and nothing happens.
func TestNoAttempts(t *testing.T) {
	for _, p := range []position{lane(1), lane(3, scouts(0, 0, ^2)...), parade(), army(12), army(0)} {
		for _, l := range [][]impl.Attempt{nil, {}} {
			wantReasons(t, p, l)
			wantSettled(t, p, l, 0)
		}
	}
}

// A unit may attempt to go to each neighbour that is on the map.
func TestOneAttempt(t *testing.T) {
	p := position{plainFront(), stateOf(unit(0, guard, middle, 2), unit(1, guard, 0, 1), unit(0, scout, 2, 1))}
	next := map[int][]int{0: aroundMiddle, 1: {1, 3}, 2: {1, 4, 5}}
	for u, near := range next {
		at := p.state.Units[u].At
		for to := -12; to <= 21; to++ {
			l := []impl.Attempt{attempt(u, at, to)}
			if !slices.Contains(near, to) {
				wantNoAttempts(t, p, l)
				continue
			}
			wantIsAttempts(t, p, l, true)
			if n, ok := p.reason(l, 0); !ok || n == impl.ReGo == (u == 1 && to == middle) {
				t.Errorf("AttemptReason of %v: %d, %v", l, n, ok)
			}
		}
		for _, to := range append([]int{1 << 32, 1<<32 + near[0], -1 << 32}, outside...) {
			wantNoAttempts(t, p, []impl.Attempt{attempt(u, at, to)})
		}
	}
}

// The kind of the unit has to be able to enter the hex: neither a road nor no
// river opens a closed one.
func TestAttemptsOnClosedHexes(t *testing.T) {
	b := frontRow(plain, ridge, path, sea, rock, sea, sea)
	units := stateOf(unit(0, guard, 0, 1), unit(0, guard, 1, 1), unit(1, scout, 2, 1), unit(0, boat, 3, 1), unit(1, boat, 6, 1))
	open := map[[2]int]bool{{0, 1}: true, {1, 0}: true, {4, 5}: true}
	for _, roads := range [][]int{nil, {0, 3, 6, 9, 12, 15}} {
		for weather := range 3 {
			p := position{withEdges(b, nil, roads), units}.in(weather)
			for u, v := range units.Units {
				for _, to := range []int{v.At - 1, v.At + 1} {
					wantIsAttempts(t, p, p.tries(u, to), open[[2]int{u, to}])
					if !open[[2]int{u, to}] {
						wantAttemptCallsFail(t, p, p.tries(u, to))
					}
				}
			}
		}
	}
}

// An attempt begins where its unit is, which has to be on the map.
func TestUnitsOfAttempts(t *testing.T) {
	p := parade()
	wantReasons(t, p, []impl.Attempt{attempt(0, 0, 1), attempt(1, 5, 4), attempt(3, 1, 2)}, 0, 0, 0)
	for _, u := range append([]int{0, 1, 2, 3, 4, 5, 6, 11, 12, 13, 1 << 32}, outside...) {
		for from := -2; from <= 7; from++ {
			for to := -2; to <= 7; to++ {
				right := 0 <= u && u < 5 && p.state.Units[u].At == from && from != -1
				if right && to >= 0 && to <= 5 && (to-from == 1 || from-to == 1) {
					wantReasons(t, p, []impl.Attempt{attempt(u, from, to)}, 0)
				} else {
					wantNoAttempts(t, p, []impl.Attempt{attempt(u, from, to)})
				}
			}
		}
	}
	for _, n := range append([]int{6, 1 << 32, -1 << 32}, outside...) {
		wantNoAttempts(t, p, []impl.Attempt{attempt(n, 0, 1)})
		wantNoAttempts(t, p, []impl.Attempt{attempt(0, n, 1)})
		wantNoAttempts(t, p, []impl.Attempt{attempt(0, n, n)})
		wantNoAttempts(t, p, []impl.Attempt{attempt(2, n, 0)})
		wantNoAttempts(t, p, []impl.Attempt{attempt(0, 0, 1), attempt(1, 5, n)})
		wantNoAttempts(t, p, []impl.Attempt{attempt(n, n, n), attempt(1, 5, 4)})
	}
}

// The units of a list increase.
func TestOrderOfAttempts(t *testing.T) {
	p := lane(6, scouts(0, 1, 2, ^5)...)
	all := p.tries(0, 1, 1, 2, 2, 3, 3, 4)
	for mask := range 1 << 4 {
		var l []impl.Attempt
		for n, a := range all {
			if mask>>n&1 == 1 {
				l = append(l, a)
			}
		}
		wantIsAttempts(t, p, l, true)
		for i := range l {
			for k := range i {
				l[i], l[k] = l[k], l[i]
				wantNoAttempts(t, p, l)
				l[i], l[k] = l[k], l[i]
			}
			wantNoAttempts(t, p, slices.Insert(slices.Clone(l), i, l[i]))
		}
	}
	wantNoAttempts(t, p, p.tries(1, 0, 1, 2))
	wantNoAttempts(t, p, p.tries(0, 1, 1, 0, 1, 2))
	wantNoAttempts(t, p, slices.Repeat(all, 1000))
	wantNoAttempts(t, p, slices.Repeat(all[:1], 100000))
	// One wrong attempt at any place is enough.
	for i := range all {
		wantNoAttempts(t, p, with(all, i, attempt(i, all[i].From, all[i].From)))
		wantNoAttempts(t, p, with(all, i, attempt(i, all[i].To, all[i].From)))
		wantNoAttempts(t, p, with(all, i, attempt(i+4, all[i].From, all[i].To)))
	}
}

// One attempt for each unit of a state that has as many as there may be.
func TestAttemptsOfAllUnits(t *testing.T) {
	p := army(12)
	l := p.tries(0, 1, 1, 1, 2, 1, 3, 1, 4, 2, 5, 2, 6, 2, 7, 2, 8, 1, 9, 1, 10, 1, 11, 1)
	wantReasons(t, p, l, 0, 0, 0, 0, 0, 0, 0, 0, 4, 4, 4, 4)
	// Nobody leaves the hex 2, then nobody leaves 1, and then nobody leaves 0.
	wantSettled(t, p, l, 3)
	wantNoAttempts(t, p, append(l, attempt(12, 2, 1)))
	// Those of the hex 0 stay, and the others exchange their hexes.
	wantSettled(t, p, l[4:], 0, 4, 5, 6, 7, 8, 9, 10, 11)
}

// An enemy in To that stays is a reason; one that leaves is none, wherever it
// goes.
func TestEnemies(t *testing.T) {
	for _, sides := range [][]int{{0, ^1}, {^0, 1}} {
		p := lane(4, scouts(sides...)...)
		wantReasons(t, p, p.tries(0, 1), impl.ReEnemy)
		wantSettled(t, p, p.tries(0, 1), 1)
		wantReasons(t, p, p.tries(0, 1, 1, 2), 0, 0)
		wantSettled(t, p, p.tries(0, 1, 1, 2), 0, 0, 1)
	}
	for _, c := range []struct {
		hexes  []int
		tries  []int
		reason int
	}{
		// Two enemies in To, of which none, one and both leave.
		{[]int{^1, 0, ^1}, []int{1, 1}, impl.ReEnemy}, {[]int{^1, 0, ^1}, []int{0, 2, 1, 1}, impl.ReEnemy},
		{[]int{^1, 0, ^1}, []int{1, 1, 2, 2}, impl.ReEnemy}, {[]int{^1, 0, ^1}, []int{0, 2, 1, 1, 2, 2}, impl.ReGo},
		// Enemies in From's other neighbour, or elsewhere, are no reason.
		{[]int{^0, 1, ^3}, []int{1, 2}, impl.ReGo}, {[]int{^0, 1, ^2}, []int{1, 2, 2, 3}, impl.ReGo},
	} {
		p := lane(4, scouts(c.hexes...)...)
		l := p.tries(c.tries...)
		i := slices.IndexFunc(l, func(a impl.Attempt) bool { return a.Unit == 1 })
		n, ok := p.reason(l, i)
		wantNumber(t, "AttemptReason", n, ok, c.reason)
	}
}

// Enemies that exchange their hexes are both refused, units of one side are not.
func TestSwaps(t *testing.T) {
	for _, hexes := range [][]int{{0, ^1}, {^0, 1}, {1, ^0}, {^1, 0}} {
		p := lane(3, scouts(hexes...)...).stacking(1)
		l := p.tries(0, p.state.Units[1].At, 1, p.state.Units[0].At)
		wantReasons(t, p, l, impl.ReSwap, impl.ReSwap)
		wantSettled(t, p, l, 1)
		p.state.Units[0].Side = p.state.Units[1].Side
		wantReasons(t, p, l, impl.ReGo, impl.ReGo)
		wantSettled(t, p, l, 0, 0, 1)
	}
	// Three units of both sides that go around in a ring exchange no hexes.
	p := position{plainFront(), stateOf(scouts(4, ^5, 7)...)}.stacking(1)
	wantSettled(t, p, p.tries(0, 5, 1, 7, 2, 4), 0, 0, 1, 2)
	wantSettled(t, p, p.tries(0, 7, 1, 4, 2, 5), 0, 0, 1, 2)
	// Two against one: the units in one hex go to the other one and onwards.
	p = lane(3, scouts(1, 1, ^0)...)
	wantReasons(t, p, p.tries(0, 0, 1, 2, 2, 1), impl.ReSwap, impl.ReGo, impl.ReSwap)
	wantReasons(t, p, p.tries(0, 0, 1, 0, 2, 1), impl.ReSwap, impl.ReSwap, impl.ReSwap)
	wantReasons(t, p, p.tries(0, 0, 2, 1), impl.ReSwap, impl.ReEnemy)
}

// Enemies that enter the same hex are all refused, units of one side are not.
func TestClashes(t *testing.T) {
	p := lane(3, scouts(0, ^2)...)
	wantReasons(t, p, p.tries(0, 1, 1, 1), impl.ReClash, impl.ReClash)
	wantSettled(t, p, p.tries(0, 1, 1, 1), 1)
	wantSettled(t, p, p.tries(0, 1), 0, 0)
	wantSettled(t, p, p.tries(1, 1), 0, 1)
	p = lane(3, scouts(0, 2)...)
	wantReasons(t, p, p.tries(0, 1, 1, 1), impl.ReGo, impl.ReGo)
	wantSettled(t, p, p.tries(0, 1, 1, 1), 0, 0, 1)
	// Six units around a hex, of which one is an enemy of the others.
	for other := range 6 {
		p = position{plainFront(), stateOf(scouts(aroundMiddle...)...)}
		p.state.Units[other].Side = 1
		l := p.tries(0, middle, 1, middle, 2, middle, 3, middle, 4, middle, 5, middle)
		wantReasons(t, p, l, 3, 3, 3, 3, 3, 3)
		wantSettled(t, p, l, 1)
	}
	// The hex is left by a unit of either side.
	for _, hexes := range [][]int{{0, ^2, 1}, {0, ^2, ^1}} {
		p = position{frontBoard(3, make([]int, 6)...), stateOf(scouts(hexes...)...)}
		wantReasons(t, p, p.tries(0, 1, 1, 1, 2, 4), impl.ReClash, impl.ReClash, impl.ReGo)
		wantSettled(t, p, p.tries(0, 1, 1, 1, 2, 4), 1, 2)
	}
}

// wantEntered requires of the attempts of a list, which are all on one hex and of
// one side, as many to remain as there is room for, the first ones.
func wantEntered(t *testing.T, p position, l []impl.Attempt, room int) {
	t.Helper()
	var reasons, units []int
	for _, a := range l {
		if len(units) < room {
			reasons, units = append(reasons, impl.ReGo), append(units, a.Unit)
		} else {
			reasons = append(reasons, impl.ReStack)
		}
	}
	wantReasons(t, p, l, reasons...)
	wantSettled(t, p, l, min(len(l)-len(units), 1), units...)
}

// Stack counts the units of the own side that stay in To, and those with smaller
// indices that attempt to enter it. Units with indices before and after those
// that stay enter.
func TestStacksThatAreEntered(t *testing.T) {
	for stack := 1; stack <= 4; stack++ {
		for stay := range stack + 1 {
			for before := range stack + 1 {
				for after := range stack + 1 {
					hexes := slices.Concat(slices.Repeat([]int{0}, before), slices.Repeat([]int{1}, stay), slices.Repeat([]int{2}, after))
					p := lane(3, scouts(hexes...)...).stacking(stack)
					var l []impl.Attempt
					for u, i := range hexes {
						if i != 1 {
							l = append(l, attempt(u, i, 1))
						}
					}
					wantEntered(t, p, l, stack-stay)
				}
			}
		}
	}
}

// Units that leave To make room for others, also if they go to where these are.
func TestStacksThatAreLeft(t *testing.T) {
	for room := range 4 {
		rounds := min(3-room, 1)
		enter := append(make([]int, room), slices.Repeat([]int{impl.ReStack}, 3-room)...)
		p := lane(3, scouts(1, 1, 1, 0, 0, 0)...).stacking(3)
		l := append(p.tries(0, 2, 1, 2, 2, 2)[:room], p.tries(3, 1, 4, 1, 5, 1)...)
		wantReasons(t, p, l, append(make([]int, room), enter...)...)
		wantSettled(t, p, l, rounds, append([]int{0, 1, 2}[:room], []int{3, 4, 5}[:room]...)...)
		p = lane(3, scouts(0, 0, 0, 1, 1, 1)...).stacking(3)
		l = append(p.tries(0, 1, 1, 1, 2, 1), p.tries(3, 2, 4, 2, 5, 2)[:room]...)
		wantReasons(t, p, l, append(enter, make([]int, room)...)...)
		wantSettled(t, p, l, rounds, append([]int{0, 1, 2}[:room], []int{3, 4, 5}[:room]...)...)
	}
	p := lane(2, scouts(0, 0, 1, 1)...).stacking(2)
	wantSettled(t, p, p.tries(0, 1, 1, 1, 2, 0, 3, 0), 0, 0, 1, 2, 3)
	wantSettled(t, p, p.tries(0, 1, 2, 0), 0, 0, 2)
	wantReasons(t, p, p.tries(0, 1, 1, 1, 2, 0), 0, 4, 0)
	// The unit 1 stays in the hex 0, where there is room for the unit 2 all the same.
	wantSettled(t, p, p.tries(0, 1, 1, 1, 2, 0), 1, 0, 2)
}

// Only the attempts of units with smaller indices count, wherever these are in
// the list of units.
func TestStacksByIndices(t *testing.T) {
	p := position{plainFront(), stateOf(scouts(aroundMiddle...)...)}
	for mask := range 1 << 6 {
		var l []impl.Attempt
		for u, v := range p.state.Units {
			if mask>>u&1 == 1 {
				l = append(l, attempt(u, v.At, middle))
			}
		}
		for stack := 1; stack <= 4; stack++ {
			wantEntered(t, p.stacking(stack), l, stack)
		}
	}
}

// Enemies in To that leave it, and units in other hexes, do not count for Stack,
// nor do units off the map.
func TestStacksOfOneSide(t *testing.T) {
	p := lane(4, append(scouts(^1, ^1, 0, 2), unit(0, scout, -1, 1), unit(0, scout, -1, 0))...).stacking(2)
	wantReasons(t, p, p.tries(0, 2, 1, 2, 2, 1), 1, 1, 0)
	wantReasons(t, p, p.tries(0, 2, 1, 2, 2, 1, 3, 3), 0, 0, 0, 0)
	wantSettled(t, p, p.tries(0, 2, 1, 2, 2, 1, 3, 3), 0, 0, 1, 2, 3)
	p = lane(3, append(scouts(0, 0, 1), unit(0, scout, -1, 1))...).stacking(2)
	wantReasons(t, p, p.tries(1, 1), 0)
	wantReasons(t, p, p.tries(0, 1, 1, 1), 0, impl.ReStack)
}

// Each two reasons, and more of them, hold at once: the first one of the table
// counts. The unit is that with index 6 and goes from the middle to the hex 5.
func TestFirstReason(t *testing.T) {
	parts := []struct {
		reason, to int
		units      []int
		at         int
	}{
		{impl.ReEnemy, -1, []int{0}, ^5}, {impl.ReSwap, middle, []int{1}, ^5}, {impl.ReClash, 5, []int{2}, ^8}, {impl.ReStack, 5, []int{3, 4}, 2},
	}
	for mask := range 1 << 4 {
		p := position{plainFront(), stateOf(scouts(^0, ^0, ^0, 1, 1, 1, middle)...)}.stacking(2)
		p.state.Units[0].At, p.state.Units[5].At = -1, -1
		var tries []int
		var held [5]bool
		want := impl.ReGo
		for n, c := range parts {
			if mask>>n&1 == 0 {
				continue
			}
			held[c.reason] = true
			if want == impl.ReGo {
				want = c.reason
			}
			for _, u := range c.units {
				p.state.Units[u] = scouts(c.at)[0]
				if c.to >= 0 {
					tries = append(tries, u, c.to)
				}
			}
		}
		l := p.tries(append(tries, 6, 5)...)
		if holds := officeOf(p).reasonsBySearch(l, len(l)-1); holds != held {
			t.Errorf("%v hold for %v, want %v", holds, l, held)
		}
		n, ok := p.reason(l, len(l)-1)
		wantNumber(t, "AttemptReason of the last one", n, ok, want)
		wantIsAttempts(t, p, l, true)
	}
}

// Drawn lists have the reasons of the table, up to three of them at once often.
func TestDrawnReasons(t *testing.T) {
	random := rand.New(rand.NewSource(151))
	counts := map[[5]bool]int{}
	for _, w := range crowds() {
		for range 20 {
			l := drawnAttempts(random, w)
			wantAnyAttempts(t, w, l)
			for i := range l {
				counts[w.reasonsBySearch(l, i)]++
			}
		}
	}
	for mask := range 1<<4 - 1 {
		var holds [5]bool
		for n := range 4 {
			holds[n+1] = mask>>n&1 == 1
		}
		if counts[holds] < 5 {
			t.Errorf("the reasons %v hold at once %d times", holds, counts[holds])
		}
	}
}

// Drawn lists that are wrong in one number are not valid, unless the definition
// says so.
func TestDrawnInvalidAttempts(t *testing.T) {
	random := rand.New(rand.NewSource(152))
	counts := map[bool]int{}
	for _, w := range crowds() {
		l := drawnAttempts(random, w)
		if len(l) == 0 {
			continue
		}
		for range 5 {
			changed := slices.Clone(l)
			a := &changed[random.Intn(len(l))]
			*[]*int{&a.Unit, &a.From, &a.To}[random.Intn(3)] = random.Intn(len(w.next)+2) - 1
			counts[w.areAttemptsBySearch(changed)]++
			wantAnyAttempts(t, w, changed)
		}
	}
	if counts[true] < 100 || counts[false] < 1000 {
		t.Errorf("valid and invalid lists: %v", counts)
	}
}
