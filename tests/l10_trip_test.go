package tests

import (
	"math/rand"
	"slices"
	"testing"

	"loop.example/g00886/impl"
)

func TestDetours(t *testing.T) {
	// The distances from 0 to 2 are 9 over the hexes 3 and 4, 11 over 1.
	b := trailBoard(3, meadow, thicket, meadow, meadow, meadow, thicket)
	x := walk(b, 0, 2)
	wantDetour(t, x, 9)
	wantDetour(t, x, 9, 1)
	wantDetour(t, x, 9, 1, 5)
	wantDetour(t, x, 11, 3)
	wantDetour(t, x, 11, 4)
	wantDetour(t, x, 11, 3, 4, 5)
	wantDetour(t, x, -1, 1, 3)
	wantDetour(t, x, -1, 1, 4)
	wantDetour(t, x, -1, 1, 3, 4, 5)
	// Without 1 and the last step from 4, the way leads over 5.
	wantDetour(t, walk(withEdges(b, []int{13}, nil), 0, 2), 13, 1)
	b.Rules.River = 9
	wantDetour(t, walk(withEdges(b, []int{13}, nil), 0, 2), 17, 1)
	wantDetour(t, walk(withEdges(b, []int{13}, nil), 0, 2), 18, 1, 5)
	// In bad weather, each step costs more.
	wantDetour(t, x.in(1), 12)
	wantDetour(t, x.in(1), 13, 4)
	wantDetour(t, x.in(2), 15)
	wantDetour(t, x.in(2), 15, 4)
	wantDetour(t, x.in(2), 15, 1)
}

// The hex where the way begins may be in the list, since no step leads into it,
// but not the one where it ends.
func TestDetoursAroundTheEnds(t *testing.T) {
	b := trailBoard(3, meadow, thicket, meadow, meadow, meadow, thicket)
	wantDetour(t, walk(b, 0, 2), 9, 0)
	wantDetour(t, walk(b, 0, 2), 11, 0, 3)
	wantDetour(t, walk(b, 0, 2), -1, 2)
	wantDetour(t, walk(b, 0, 2), -1, 0, 2)
	wantDetour(t, walk(b, 0, 2), -1, 0, 1, 2, 3, 4, 5)
	wantDetour(t, walk(b, 0, 1), 8, 0, 2, 3, 4, 5)
	wantDetour(t, walk(b, 0, 1), -1, 1)
	wantDetour(t, walk(b, 2, 2), 0, 2)
	wantDetour(t, walk(b, 2, 2), 0, 0, 1, 2, 3, 4, 5)
	// Hexes that are closed or not reached make no difference.
	row := trailRow(meadow, meadow, cliff, meadow, lake)
	wantDetour(t, walk(row, 0, 1), 3, 2, 3, 4)
	wantDetour(t, walk(row, 2, 3), 3, 0, 1, 2, 4)
	wantDetour(t, walk(row, 2, 2), 0, 2)
	wantDetour(t, walk(row, 0, 3), -1)
	wantDetour(t, walk(row, 0, 2), -1)
	wantDetour(t, walk(row, 0, 4), -1, 1)
	wantDetour(t, walk(trailRow(cliff), 0, 0), 0, 0)
}

// wantNoDetour requires DetourCost to fail for a list that is not valid.
func wantNoDetour(t *testing.T, x trip, avoid []int) {
	t.Helper()
	wantDetour(t, x, -1, avoid...)
}

func TestInvalidListsOfDetours(t *testing.T) {
	b := trailBoard(3, make([]int, 9)...)
	for _, x := range []trip{walk(b, 0, 1), walk(b, 8, 0), walk(b, middle, middle)} {
		for _, avoid := range [][]int{
			{5, 3}, {3, 3}, {2, 3, 3}, {2, 2, 3}, {3, 2, 5}, {7, 6, 5}, {2, 5, 3}, slices.Repeat([]int{2}, 1000),
			{9}, {10}, {2, 9}, {2, 3, 9}, {-2, 2}, {-1, 2, 5}, {2, -1}, {2, 3, -1}, {1 << 32}, {-1 << 32, 2}, {2, 2 + 1<<32},
		} {
			wantNoDetour(t, x, avoid)
		}
		for _, n := range outside {
			wantNoDetour(t, x, []int{n})
			wantNoDetour(t, x, []int{2, n})
			wantNoDetour(t, x, []int{n, 2})
			wantNoDetour(t, x, []int{2, n, 5})
		}
	}
	wantDetour(t, walk(b, 0, 1), 3, 2, 3, 5)
	wantDetour(t, walk(b, 0, 8), 12, 1, 2, 4, 5)
	wantDetour(t, walk(b, 0, 8), -1, 2, 4, 6)
}

// All costs of detours follow from the costs of the edges that remain.
func TestDetoursBySearch(t *testing.T) {
	random := rand.New(rand.NewSource(15))
	counts := map[bool]int{}
	for _, b := range trails() {
		for range 5 {
			x, avoid := drawnTrip(random, b), drawnAvoid(random, b)
			a := atlasOf(b, x.kind, x.weather, avoid...)
			for k, want := range a.apart[x.from] {
				x.to = k
				wantDetour(t, x, want, avoid...)
				counts[want < 0]++
			}
		}
	}
	if counts[true] < 1000 || counts[false] < 1000 {
		t.Errorf("detours fail: %v", counts)
	}
}

func TestMeetingHexes(t *testing.T) {
	// Two hexes in the middle are as far from both, and have the same sums.
	wantMeeting(t, walk(trailRow(make([]int, 4)...), 0, 3), 1)
	wantMeeting(t, walk(trailRow(make([]int, 4)...), 3, 0), 1)
	wantMeeting(t, walk(trailRow(make([]int, 6)...), 1, 4), 2)
	wantMeeting(t, walk(trailRow(make([]int, 5)...), 0, 4), 2)
	wantMeeting(t, walk(square(meadow, meadow, meadow, meadow), 0, 3), 1)
	wantMeeting(t, walk(square(meadow, thicket, meadow, meadow), 0, 3), 2)
	// Neighbours meet in the hex that costs less, or in the first one.
	wantMeeting(t, walk(trailRow(meadow, meadow), 0, 1), 0)
	wantMeeting(t, walk(trailRow(meadow, meadow), 1, 0), 0)
	wantMeeting(t, walk(trailRow(thicket, meadow), 0, 1), 1)
	wantMeeting(t, walk(trailRow(meadow, thicket), 0, 1), 0)
	// The greater distance is 11 in both hexes: those of 1 are 8 and 11, those of 2
	// are 11 and 3.
	wantMeeting(t, walk(trailRow(meadow, thicket, meadow, meadow), 0, 3), 2)
	wantMeeting(t, walk(trailRow(meadow, thicket, meadow, meadow), 3, 0), 2)
	wantMeeting(t, walk(trailRow(meadow, meadow, thicket, meadow), 0, 3), 1)
	// The sum is 16 in the hex 1, and 11 where the other one has come all the way.
	wantMeeting(t, walk(trailRow(meadow, thicket, meadow), 0, 2), 1)
	// The way around the thicket is the cheaper one, so that they meet below it.
	wantMeeting(t, walk(trailBoard(3, meadow, thicket, meadow, meadow, meadow, thicket), 0, 2), 3)
}

// A hex that is reached from one of both alone is no place to meet.
func TestMeetingHexesOfClosedHexes(t *testing.T) {
	wantMeeting(t, walk(trailRow(cliff, meadow), 0, 1), 1)
	wantMeeting(t, walk(trailRow(cliff, meadow), 1, 0), 1)
	wantMeeting(t, walk(trailRow(cliff, meadow, meadow, meadow), 0, 3), 1)
	wantMeeting(t, walk(trailRow(cliff, thicket, meadow, cliff), 0, 3), 2)
	wantMeeting(t, walk(trailRow(cliff, meadow, cliff), 2, 0), 1)
	wantMeeting(t, walk(trailRow(cliff, cliff), 0, 1), -1)
	wantMeeting(t, walk(trailRow(cliff, cliff, meadow), 0, 2), -1)
	wantMeeting(t, walk(trailRow(meadow, cliff, meadow), 0, 2), -1)
	wantMeeting(t, walk(trailRow(meadow, cliff, meadow), 0, 1), 0)
	wantMeeting(t, walk(trailRow(meadow, cliff, meadow), 1, 2), 2)
	wantMeeting(t, walk(trailRow(meadow, cliff, meadow), 1, 1), 1)
	wantMeeting(t, walk(trailRow(meadow, lake, cliff, lake), 0, 1).by(raft), 1)
	wantMeeting(t, walk(trailRow(meadow, lake, cliff, lake), 0, 2).by(raft), 1)
	wantMeeting(t, walk(trailRow(meadow, lake, cliff, lake), 0, 3).by(raft), -1)
}

func TestMeetingsBySearch(t *testing.T) {
	random := rand.New(rand.NewSource(16))
	ties, none := 0, 0
	for _, b := range trails() {
		for range 4 {
			x := drawnTrip(random, b)
			a := atlasOf(b, x.kind, x.weather)
			for k := range b.Map.Terrain {
				x.to = k
				want := a.meetingBySearch(x.from, k)
				wantMeeting(t, x, want)
				wantMeeting(t, x.back(), want)
				if want < 0 {
					none++
				}
				if want >= 0 && meetingTies(a, x.from, k, want) {
					ties++
				}
			}
		}
	}
	if ties < 300 || none < 300 {
		t.Errorf("%d meetings have ties, %d do not exist", ties, none)
	}
}

// meetingTies reports whether the greater distance of another hex is the same.
func meetingTies(a atlas, i, k, meeting int) bool {
	least := max(a.apart[i][meeting], a.apart[k][meeting])
	for at := range a.apart {
		if at != meeting && a.apart[i][at] >= 0 && a.apart[k][at] >= 0 && max(a.apart[i][at], a.apart[k][at]) == least {
			return true
		}
	}
	return false
}

// walkWith is a trip of the walker with other moves.
func walkWith(moves int, b impl.Board, from, to int) trip {
	return walk(withMoves(b, moves), from, to)
}

func TestTurnsOnARow(t *testing.T) {
	row := trailRow(make([]int, 10)...)
	for moves, want := range []int{-1, -1, -1, 9, 9, 9, 5, 5, 5, 3} {
		wantTurns(t, walkWith(moves, row, 0, 9), want)
		wantTurns(t, walkWith(moves, row, 9, 0), want)
		wantTurns(t, walkWith(moves, row, 9, 9), 0)
	}
	for to, want := range []int{0, 1, 1, 2, 2, 3, 3, 4, 4, 5} {
		wantTurns(t, walkWith(6, row, 0, to), want)
		wantTurns(t, walkWith(8, row, 0, to), want)
	}
	// In mud, a step costs 4 or 5.
	for weather, want := range []int{3, 5, 9} {
		wantTurns(t, walkWith(9, row, 0, 9).in(weather), want)
	}
	// The kinds have moves of their own: walker 4, cart 6.
	wantTurns(t, walk(row, 0, 9), 9)
	wantTurns(t, walk(row, 0, 9).by(cart), 3)
	wantTurns(t, walk(trailRow(lake, lake), 0, 1).by(raft), -1)
	wantTurns(t, walk(trailRow(lake, lake), 1, 1).by(raft), 0)
}

// A step that costs more than all moves of a turn is never made.
func TestTurnsWithDearSteps(t *testing.T) {
	b := trailRow(meadow, meadow, thicket, meadow)
	for moves, want := range []int{-1, -1, -1, 1, 1, 1, 1, 1, 1, 1} {
		wantTurns(t, walkWith(moves, b, 0, 1), want)
	}
	for moves, want := range []int{-1, -1, -1, -1, -1, -1, -1, -1, 3, 3} {
		wantTurns(t, walkWith(moves, b, 0, 3), want)
		wantTurns(t, walkWith(moves, b, 3, 1), max(want-1, -1))
	}
	wantTurns(t, walkWith(9, b, 0, 3).in(1), 3)
	wantTurns(t, walkWith(9, b, 0, 3).in(2), -1)
	wantTurns(t, walkWith(9, b, 0, 1).in(2), 1)
	wantTurns(t, walkWith(9, trailRow(meadow, cliff, meadow), 0, 2), -1)
	// A river makes a step too dear, and a road over it does not.
	wet := withEdges(trailRow(meadow, meadow), []int{0}, nil)
	wantTurns(t, walkWith(6, wet, 0, 1), -1)
	wantTurns(t, walkWith(7, wet, 0, 1), 1)
	wantTurns(t, walkWith(5, withEdges(wet, []int{0}, []int{0}), 0, 1), 1)
	wantTurns(t, walkWith(4, withEdges(wet, []int{0}, []int{0}), 0, 1), -1)
	// The way around the thicket is the only one that has no step of 8.
	b = trailBoard(3, meadow, thicket, meadow, meadow, meadow, thicket)
	wantTurns(t, walkWith(7, b, 0, 2), 2)
	wantTurns(t, walkWith(3, b, 0, 2), 3)
	wantTurns(t, walkWith(2, b, 0, 2), -1)
}

// costRow returns a row of hexes with the given costs of entering.
func costRow(moves int, costs ...int) impl.Board {
	b := impl.Board{Rules: costRules(moves, 1, 2, 3, 4, 5, 6), Map: plainMap(len(costs), 1)}
	for i, cost := range costs {
		b.Map.Terrain[i] = cost - 1
	}
	return b
}

// Moves that are left at the end of a turn are lost.
func TestTurnsWithMovesLeft(t *testing.T) {
	for _, c := range []struct {
		moves, want int
		costs       []int
	}{
		{6, 3, []int{1, 4, 4, 4}}, {8, 2, []int{1, 4, 4, 4}}, {6, 2, []int{1, 4, 2, 4, 2}}, {6, 3, []int{1, 2, 5, 4, 1}},
		{6, 3, []int{1, 1, 6, 1, 4}}, {6, 4, []int{1, 1, 6, 1, 6}}, {6, 1, []int{6, 1, 2, 3}}, {6, 2, []int{6, 1, 2, 4}},
		{6, 3, []int{1, 6, 6, 6}}, {9, 3, []int{1, 5, 5, 5}}, {9, 2, []int{1, 5, 4, 5, 4}}, {9, 3, []int{1, 5, 4, 5, 5}},
	} {
		wantTurns(t, trip{board: costRow(c.moves, c.costs...), to: len(c.costs) - 1}, c.want)
	}
}

// The cheapest way, over the hexes 1 and 2, costs 3 + 3 + 3 and takes three
// turns of 5 moves; that over 5 and 6 costs 5, 2 + 3 and takes two.
func TestTurnsOfDearerWays(t *testing.T) {
	b := impl.Board{Rules: costRules(5, 2, 3, 5, 0), Map: plainMap(4, 2)}
	b.Map.Terrain = []int{3, 1, 1, 1, 1, 2, 0, 3}
	x := trip{board: b, from: 4, to: 3}
	wantCheapestPath(t, x, 1, 1, 0, 0)
	wantDetour(t, x, 9)
	wantDetour(t, x, 10, 1, 2)
	wantTurns(t, x, 2)
	b.Map.Terrain[5] = 3
	wantTurns(t, x, 3)
	b.Map.Terrain[5], b.Map.Terrain[1] = 2, 3
	wantTurns(t, x, 2)
	x.board = withMoves(b, 9)
	wantTurns(t, x, 2)
	x.board = withMoves(b, 4)
	wantTurns(t, x, -1)
}

// The turns to all hexes follow from the hexes that are within the moves of one
// turn.
func TestTurnsBySearch(t *testing.T) {
	random := rand.New(rand.NewSource(17))
	counts, waits := map[int]int{}, 0
	for _, b := range journeys() {
		for range 4 {
			x := drawnTrip(random, b)
			moves := b.Rules.Kinds[x.kind].Moves
			a := atlasOf(b, x.kind, x.weather)
			for k, want := range a.turnsBySearch(x.from, moves) {
				x.to = k
				wantTurns(t, x, want)
				counts[want]++
				if want > 0 && want > (a.apart[x.from][k]+moves-1)/moves {
					waits++
				}
			}
		}
	}
	for n := -1; n < 6; n++ {
		if counts[n] < 20 || waits < 100 {
			t.Errorf("trips have turns: %v, %d of them with moves that are lost", counts, waits)
		}
	}
}
