package tests

import (
	"fmt"
	"math/rand"
	"slices"
	"testing"

	"loop.example/g00886/impl"
)

// wantThrowsFail requires the functions with a seed and a number i to fail.
func wantThrowsFail(t *testing.T, seed, i int) {
	t.Helper()
	what := fmt.Sprint(" of ", seed, " and ", i)
	die, ok := impl.DieAt(seed, i)
	wantZero(t, "DieAt"+what, ok, die)
	for n := -1; n <= 9; n++ {
		list, ok := impl.DiceFrom(seed, i, n)
		wantZero(t, fmt.Sprint("DiceFrom", what, " of ", n), ok, list)
		below, ok := impl.NumberBelow(seed, i, n)
		wantZero(t, fmt.Sprint("NumberBelow", what, " of ", n), ok, below)
	}
}

func TestInvalidSeeds(t *testing.T) {
	for _, seed := range badSeeds {
		for _, label := range []string{"", "battle", "é"} {
			child, ok := impl.ChildSeed(seed, label)
			wantZero(t, fmt.Sprint("ChildSeed of ", seed), ok, child)
		}
		for _, i := range append([]int{maxThrow + 1}, someThrows...) {
			wantThrowsFail(t, seed, i)
		}
		for n := -1; n <= 41; n++ {
			list, ok := impl.ShuffleBy(seed, n)
			wantZero(t, fmt.Sprint("ShuffleBy of ", seed), ok, list)
			list, ok = impl.FacesOf(seed, n)
			wantZero(t, fmt.Sprint("FacesOf of ", seed), ok, list)
		}
	}
}

func TestInvalidNumbersOfDice(t *testing.T) {
	for _, seed := range someSeeds {
		for _, i := range append([]int{maxThrow + 1, maxThrow + 2, -2, 1 << 32, -1 << 32, 1 << 62}, outside...) {
			wantThrowsFail(t, seed, i)
		}
	}
}

// Numbers of dice and of elements that are far outside neither wrap around nor
// take memory.
func TestInvalidCounts(t *testing.T) {
	for _, n := range append([]int{1000001, 1 << 32, -1 << 32, 1<<32 + 1, 1 << 62}, outside...) {
		for _, seed := range someSeeds {
			for _, i := range someThrows {
				list, ok := impl.DiceFrom(seed, i, n)
				wantZero(t, fmt.Sprint("DiceFrom of ", n), ok, list)
				below, ok := impl.NumberBelow(seed, i, n)
				wantZero(t, fmt.Sprint("NumberBelow of ", n), ok, below)
			}
			list, ok := impl.ShuffleBy(seed, n)
			wantZero(t, fmt.Sprint("ShuffleBy of ", n), ok, list)
			list, ok = impl.FacesOf(seed, n)
			wantZero(t, fmt.Sprint("FacesOf of ", n), ok, list)
		}
		for _, x := range append([]int{0, 1, 7, 100}, outside...) {
			ways, ok := impl.SumWays(n, x)
			wantZero(t, fmt.Sprint("SumWays of ", n), ok, ways)
			ways, ok = impl.WaysAtLeast(n, x)
			wantZero(t, fmt.Sprint("WaysAtLeast of ", n), ok, ways)
			ways, ok = impl.GreatestOf(n, x)
			wantZero(t, fmt.Sprint("GreatestOf of ", n), ok, ways)
			ways, ok = impl.GreatestOf(2, n)
			wantZero(t, fmt.Sprint("GreatestOf 2 and ", n), ok, ways)
		}
	}
	for _, sum := range append([]int{1 << 32, -1 << 32, 1<<32 + 7}, outside[:2]...) {
		ways, ok := impl.SumWays(2, sum)
		wantZero(t, fmt.Sprint("SumWays of ", sum), ok, ways)
		ways, ok = impl.WaysAtLeast(2, sum)
		wantZero(t, fmt.Sprint("WaysAtLeast of ", sum), ok, ways)
	}
}

// The spare capacity behind a list is neither read nor written.
func TestMixChangesNothing(t *testing.T) {
	r := rand.New(rand.NewSource(1221))
	for _, n := range []int{0, 1, 2, 17, 199, 200, 201} {
		whole := drawnNumbers(r, n+5)
		kept := slices.Clone(whole)
		mix, ok := impl.MixNumbers(whole[:n])
		if !slices.Equal(whole, kept) {
			t.Errorf("MixNumbers changes a list of %d elements", n)
		}
		alone, ok2 := impl.MixNumbers(slices.Clip(slices.Clone(kept[:n])))
		if mix != alone || ok != ok2 || ok != (n <= 200) {
			t.Errorf("MixNumbers of %d elements: %d, %v and %d, %v without spare capacity", n, mix, ok, alone, ok2)
		}
	}
}

func TestListsOfDiceAreNew(t *testing.T) {
	calls := map[string]func() ([]int, bool){}
	for _, seed := range someSeeds {
		calls[fmt.Sprint("DiceFrom ", seed)] = func() ([]int, bool) { return impl.DiceFrom(seed, 5, 8) }
		calls[fmt.Sprint("ShuffleBy ", seed)] = func() ([]int, bool) { return impl.ShuffleBy(seed, 40) }
		calls[fmt.Sprint("ShuffleBy of 1 ", seed)] = func() ([]int, bool) { return impl.ShuffleBy(seed, 1) }
		calls[fmt.Sprint("FacesOf ", seed)] = func() ([]int, bool) { return impl.FacesOf(seed, 600) }
		calls[fmt.Sprint("FacesOf none ", seed)] = func() ([]int, bool) { return impl.FacesOf(seed, 0) }
	}
	wantNewLists(t, calls)
}

// wantAnyThrows requires the functions with a seed to succeed exactly within
// the limits, with the results of the definition.
func wantAnyThrows(t *testing.T, seed, i, n int) {
	t.Helper()
	seeded := 0 <= seed && seed <= maxSeed
	numbered := seeded && 0 <= i && i <= maxThrow
	if _, ok := impl.DieAt(seed, i); ok != numbered {
		t.Errorf("DieAt %d of %d: %v", i, seed, ok)
	}
	if _, ok := impl.DiceFrom(seed, i, n); ok != (numbered && 0 <= n && n <= 8 && i+n <= maxThrow+1) {
		t.Errorf("DiceFrom %d of %d, %d dice: %v", i, seed, n, ok)
	}
	if _, ok := impl.NumberBelow(seed, i, n); ok != (numbered && 1 <= n && n <= 1000000) {
		t.Errorf("NumberBelow %d of %d and %d: %v", n, seed, i, ok)
	}
	if _, ok := impl.ShuffleBy(seed, n); ok != (seeded && 0 <= n && n <= 40) {
		t.Errorf("ShuffleBy %d of %d: %v", seed, n, ok)
	}
	if _, ok := impl.FacesOf(seed, n); ok != (seeded && 0 <= n && n <= 600) {
		t.Errorf("FacesOf %d of %d: %v", n, seed, ok)
	}
	if _, ok := impl.SumWays(n, i); ok != (0 <= n && n <= 8 && -100 <= i && i <= 100) {
		t.Errorf("SumWays of %d dice and %d: %v", n, i, ok)
	}
	if _, ok := impl.WaysAtLeast(n, i); ok != (0 <= n && n <= 8 && -100 <= i && i <= 100) {
		t.Errorf("WaysAtLeast of %d dice and %d: %v", n, i, ok)
	}
	if _, ok := impl.GreatestOf(n, i); ok != (1 <= n && n <= 8 && 1 <= i && i <= 6) {
		t.Errorf("GreatestOf %d dice and %d: %v", n, i, ok)
	}
}

func TestAnyNumbersForDice(t *testing.T) {
	r := rand.New(rand.NewSource(1222))
	numbers := append([]int{0, 1, 2, 6, 7, 8, 9, 40, 41, 100, 101, -100, -101, 600, 601, 999993, 999994, maxThrow, maxThrow + 1, maxSeed, maxSeed + 1}, outside...)
	for range 20000 {
		list := drawnNumbers(r, 3)
		for k := range list {
			if r.Intn(4) > 0 {
				list[k] = numbers[r.Intn(len(numbers))]
			}
		}
		wantAnyThrows(t, list[0], list[1], list[2])
	}
}
