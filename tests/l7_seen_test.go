package tests

import (
	"fmt"
	"slices"
	"testing"

	"loop.example/g00886/impl"
)

// wantSeen requires the results of SeenFrom and ClearFrom.
func wantSeen(t *testing.T, b impl.Board, i, far int, seen, clear []int) {
	t.Helper()
	what := fmt.Sprint(" ", i, " with range ", far, " on ", b.Map)
	list, ok := impl.SeenFrom(b, i, far)
	wantList(t, "SeenFrom"+what, list, ok, seen)
	list, ok = impl.ClearFrom(b, i, far)
	wantList(t, "ClearFrom"+what, list, ok, clear)
}

// From the corner of a square, a wood beside the way to the other corner leaves
// it tied; the wood itself and its neighbours are in clear sight.
func TestSeenBesideAWood(t *testing.T) {
	b := flatBoard(3, 3, 1)
	wantSeen(t, b, 0, 0, []int{0}, []int{0})
	wantSeen(t, b, 0, 1, []int{0, 1, 3}, []int{0, 1, 3})
	wantSeen(t, b, 0, 2, []int{0, 1, 3, 4, 6}, []int{0, 1, 3, 6})
	wantSeen(t, b, 0, 20, []int{0, 1, 3, 4, 6, 7, 8}, []int{0, 1, 3, 6, 7})
	wantSeen(t, b, 4, 20, []int{0, 1, 2, 3, 4, 5, 6, 7, 8}, []int{1, 2, 3, 4, 5, 6, 7, 8})
	wantSeen(t, b, 1, 20, []int{0, 1, 2, 3, 4, 5, 6, 7, 8}, []int{0, 1, 2, 3, 4, 5, 6, 7, 8})
}

// A range reaches as far as its number, with nothing in the way.
func TestSeenOnAFlat(t *testing.T) {
	b := flatBoard(10, 10)
	for i := range b.Map.Terrain {
		for _, far := range []int{0, 1, 2, 9, 17, 18, 19, 20} {
			near, _ := impl.NearOn(b.Map, i, far)
			wantSeen(t, b, i, far, near, near)
		}
	}
	if seen := seenFrom(t, b, 0, 17); len(seen) != 99 || slices.Contains(seen, 99) {
		t.Errorf("SeenFrom 0 with range 17: %v", seen)
	}
}

// Woods hide what is behind them; the first one is seen.
func TestSeenBehindWoods(t *testing.T) {
	b := flatBoard(6, 1, 2, 3)
	wantSeen(t, b, 0, 20, []int{0, 1, 2}, []int{0, 1, 2})
	wantSeen(t, b, 2, 20, []int{0, 1, 2, 3}, []int{0, 1, 2, 3})
	wantSeen(t, b, 5, 20, []int{3, 4, 5}, []int{3, 4, 5})
	b.Map.Terrain[5] = hill
	wantSeen(t, b, 0, 20, []int{0, 1, 2, 5}, []int{0, 1, 2, 5})
	wantSeen(t, b, 5, 20, []int{0, 1, 2, 3, 4, 5}, []int{0, 1, 2, 3, 4, 5})
	wantSeen(t, b, 5, 4, []int{1, 2, 3, 4, 5}, []int{1, 2, 3, 4, 5})
	b.Map.Terrain[3] = grove
	wantSeen(t, b, 5, 20, []int{3, 4, 5}, []int{3, 4, 5})
}

func TestSeenOfAllPatterns(t *testing.T) {
	for _, sides := range [][3]int{{4, 1, 4}, {2, 2, 6}, {3, 2, 3}, {3, 3, 2}} {
		for _, m := range patternMaps(sides[0], sides[1], sides[2]) {
			b := impl.Board{Rules: heightRules(1), Map: m}
			for i := range m.Terrain {
				for _, far := range []int{0, 1, 2, 3, 20} {
					wantSeen(t, b, i, far, seenBySearch(b, i, far, impl.SgClear, impl.SgTied), seenBySearch(b, i, far, impl.SgClear))
				}
			}
		}
	}
}

func TestSeenOfAllBoards(t *testing.T) {
	for n, b := range sightBoards() {
		for i := range b.Map.Terrain {
			for _, far := range []int{0, 1, 20, (n + i) % 21} {
				wantSeen(t, b, i, far, seenBySearch(b, i, far, impl.SgClear, impl.SgTied), seenBySearch(b, i, far, impl.SgClear))
			}
		}
	}
}

// wantIncreasing requires a strictly increasing list.
func wantIncreasing(t *testing.T, what string, list []int) {
	t.Helper()
	for n := 1; n < len(list); n++ {
		if list[n-1] >= list[n] {
			t.Fatalf("%s is not increasing: %v", what, list)
		}
	}
}

// What is clear is seen, what is seen sees, and a greater range sees no less.
func TestClearIsSeen(t *testing.T) {
	for _, b := range sightBoards() {
		seen := make([][]int, len(b.Map.Terrain))
		for i := range b.Map.Terrain {
			var before []int
			for _, far := range []int{0, 1, 2, 4, 7, 20} {
				now, clear := seenFrom(t, b, i, far), clearFrom(t, b, i, far)
				wantIncreasing(t, fmt.Sprint("SeenFrom ", i, " on ", b.Map), now)
				wantIncreasing(t, fmt.Sprint("ClearFrom ", i, " on ", b.Map), clear)
				for _, k := range slices.Concat(clear, before) {
					if !slices.Contains(now, k) {
						t.Fatalf("%d is not seen from %d with range %d on %v: %v", k, i, far, b.Map, now)
					}
				}
				before = now
			}
			seen[i] = before
		}
		for i := range seen {
			for k := range seen {
				if slices.Contains(seen[i], k) != slices.Contains(seen[k], i) {
					t.Fatalf("one of %d and %d alone sees the other on %v", i, k, b.Map)
				}
			}
		}
	}
}

// View is the range: with 0, a unit sees its own hex alone. What is closed for a
// kind is seen as well.
func TestSeenByView(t *testing.T) {
	b := flatBoard(5, 1)
	for view, want := range [][]int{{1}, {0, 1, 2}, {0, 1, 2, 3}, {0, 1, 2, 3, 4}, {0, 1, 2, 3, 4}} {
		b.Rules.Kinds[0].View = view
		list, ok := impl.SeenBy(b, 0, 1)
		wantList(t, fmt.Sprint("SeenBy with View ", view), list, ok, want)
	}
	camp := campBoard()
	for _, c := range []struct {
		kind, i int
		want    []int
	}{
		{0, 0, []int{0, 1, 4}}, {0, 3, []int{2, 3, 6, 7}}, {0, 5, []int{1, 2, 4, 5, 6}},
		{1, 0, []int{0, 1, 2, 4, 5}}, {1, 3, []int{2, 3, 5, 6, 7}}, {1, 5, []int{0, 1, 2, 3, 4, 5, 6, 7}},
		{2, 0, []int{0}}, {2, 5, []int{5}}, {2, 7, []int{7}},
	} {
		list, ok := impl.SeenBy(camp, c.kind, c.i)
		wantList(t, fmt.Sprint("SeenBy ", c.kind, " in ", c.i), list, ok, c.want)
	}
}

func TestSeenByAllKinds(t *testing.T) {
	for _, b := range sightBoards() {
		for kind, k := range b.Rules.Kinds {
			for i := range b.Map.Terrain {
				list, ok := impl.SeenBy(b, kind, i)
				wantList(t, fmt.Sprint("SeenBy ", kind, " in ", i, " on ", b), list, ok, seenFrom(t, b, i, k.View))
			}
		}
	}
}

func wantWatchers(t *testing.T, b impl.Board, kind, k int, want []int) {
	t.Helper()
	list, ok := impl.WatchersOf(b, kind, k)
	wantList(t, fmt.Sprint("WatchersOf ", k, " for kind ", kind, " on ", b), list, ok, want)
}

// watchBoard returns a row of hexes with the terrains plain, rock, sea and hill,
// of which foot enters plain and hill and rock blocks.
func watchBoard(view int, terrain ...int) impl.Board {
	b := impl.Board{Rules: costRules(1, 1, 0, 0, 1), Map: impl.Map{Width: len(terrain), Height: 1, Terrain: terrain}}
	b.Rules.Terrains[1].Blocks, b.Rules.Terrains[3].Height = true, 1
	b.Rules.Kinds[0].View = view
	return b
}

func TestWatchersOf(t *testing.T) {
	// The closed hexes 1 to 3 are watched, but do not watch.
	b := watchBoard(2, 0, 2, 1, 2, 0, 0)
	for k, want := range [][]int{{0}, {0}, {0, 4}, {4, 5}, {4, 5}, {4, 5}} {
		wantWatchers(t, b, 0, k, want)
	}
	// Nobody is near 2 with a view of 1; with a view of 4, the rock hides 3.
	near := watchBoard(1, 0, 2, 2, 2, 0)
	for k, want := range [][]int{{0}, {0}, nil, {4}, {4}} {
		wantWatchers(t, near, 0, k, want)
	}
	hidden := watchBoard(4, 0, 0, 1, 2, 2)
	for k, want := range [][]int{{0, 1}, {0, 1}, {0, 1}, nil, nil} {
		wantWatchers(t, hidden, 0, k, want)
	}
	// With a view of 0, an open hex has itself as its only watcher.
	blind := watchBoard(0, 0, 0, 1, 0)
	for k, want := range [][]int{{0}, {1}, nil, {3}} {
		wantWatchers(t, blind, 0, k, want)
	}
	for k := range 3 {
		wantWatchers(t, watchBoard(4, 2, 1, 2), 0, k, nil)
	}
}

func wantLookout(t *testing.T, b impl.Board, kind, want, most int) {
	t.Helper()
	what := fmt.Sprint("BestLookout of kind ", kind, " on ", b)
	i, n, ok := impl.BestLookout(b, kind)
	if most == 0 {
		wantZero(t, what, ok, i, n)
	} else if !ok || i != want || n != most {
		t.Errorf("%s: %d, %d, %v, want %d, %d", what, i, n, ok, want, most)
	}
}

func TestBestLookout(t *testing.T) {
	// Several hexes see equally many: the first one is the lookout.
	wantLookout(t, watchBoard(1, 0, 0, 0, 0), 0, 1, 3)
	wantLookout(t, watchBoard(0, 2, 0, 0), 0, 1, 1)
	wantLookout(t, watchBoard(4, 0, 0, 0, 0), 0, 0, 4)
	// A closed hex would see more.
	wantLookout(t, watchBoard(1, 0, 2, 0), 0, 0, 2)
	wantLookout(t, watchBoard(1, 0, 2, 2, 2, 0, 0), 0, 4, 3)
	// One hex alone is open, the first, a middle or the last one.
	wantLookout(t, watchBoard(2, 0, 2, 2), 0, 0, 3)
	wantLookout(t, watchBoard(2, 2, 0, 2), 0, 1, 3)
	wantLookout(t, watchBoard(1, 2, 2, 0), 0, 2, 2)
	wantLookout(t, watchBoard(2, 0), 0, 0, 1)
	// None is open.
	wantLookout(t, watchBoard(2, 2), 0, 0, 0)
	wantLookout(t, watchBoard(2, 1, 2, 1), 0, 0, 0)
	wantLookout(t, campBoard(), 2, 0, 0)
	// A hill looks over rocks up to which the flats see.
	wantLookout(t, watchBoard(4, 0, 1, 0, 1, 0, 1, 0), 0, 2, 3)
	wantLookout(t, watchBoard(4, 0, 1, 0, 1, 0, 1, 3), 0, 6, 5)
}

// The kinds of a board have open hexes, costs and views of their own.
func TestWatchersAndLookoutsOfAllBoards(t *testing.T) {
	for _, b := range sightBoards() {
		for kind := range b.Rules.Kinds {
			watchers := make([][]int, len(b.Map.Terrain))
			best, most := 0, 0
			for i := range b.Map.Terrain {
				if costAt(b, kind, i) == 0 {
					continue
				}
				seen := seenByKind(t, b, kind, i)
				if len(seen) > most {
					best, most = i, len(seen)
				}
				for _, k := range seen {
					watchers[k] = append(watchers[k], i)
				}
			}
			for k, want := range watchers {
				wantWatchers(t, b, kind, k, want)
			}
			wantLookout(t, b, kind, best, most)
		}
	}
}
