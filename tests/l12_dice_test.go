package tests

import (
	"fmt"
	"math/rand"
	"slices"
	"testing"

	"loop.example/g00886/impl"
)

func TestDiceExample(t *testing.T) {
	n, ok := impl.SumWays(2, 7)
	wantNumber(t, "SumWays of 2 dice and 7", n, ok, 6)
	n, ok = impl.SumWays(0, 0)
	wantNumber(t, "SumWays of no dice and 0", n, ok, 1)
	n, ok = impl.WaysAtLeast(2, 11)
	wantNumber(t, "WaysAtLeast of 2 dice and 11", n, ok, 3)
	n, ok = impl.GreatestOf(2, 6)
	wantNumber(t, "GreatestOf 2 dice and 6", n, ok, 11)
	for _, seed := range someSeeds {
		list, ok := impl.ShuffleBy(seed, 1)
		wantList(t, "ShuffleBy of 1", list, ok, []int{0})
		n, ok := impl.NumberBelow(seed, 0, 1)
		wantNumber(t, "NumberBelow 1", n, ok, 0)
	}
}

// The mix of 7, 3 has the number 2046581256, which 6 divides; those of 0, 0 and
// of 7 and 0, 1, 2 and 4 have been computed in the same way.
func TestDiceByHand(t *testing.T) {
	if n := dieAt(t, 7, 3); n != 1 {
		t.Error(n)
	}
	if n := dieAt(t, 0, 0); n != 1+828211029%6 {
		t.Error(n)
	}
	list, ok := impl.DiceFrom(7, 0, 8)
	wantList(t, "DiceFrom 0 of 7", list, ok, []int{2, 6, 3, 1, 4, 1, 5, 2})
	list, ok = impl.ShuffleBy(7, 6)
	wantList(t, "ShuffleBy 7", list, ok, []int{5, 2, 4, 1, 3, 0})
}

// someThrows are numbers i, the least and the greatest one among them.
var someThrows = []int{0, 1, 2, 599, 600, 65536, 999999, maxThrow}

func wantDie(t *testing.T, seed, i int) {
	t.Helper()
	n, ok := impl.DieAt(seed, i)
	wantNumber(t, fmt.Sprint("DieAt ", i, " of ", seed), n, ok, dieByDefinition(seed, i))
	if n < 1 || n > 6 {
		t.Errorf("DieAt %d of %d: %d", i, seed, n)
	}
}

func TestDice(t *testing.T) {
	for _, seed := range someSeeds {
		for _, i := range someThrows {
			wantDie(t, seed, i)
		}
	}
	r := rand.New(rand.NewSource(1211))
	for range 3000 {
		wantDie(t, drawnSeed(r), r.Intn(maxThrow+1))
	}
}

func wantDice(t *testing.T, seed, i, n int) {
	t.Helper()
	list, ok := impl.DiceFrom(seed, i, n)
	wantList(t, fmt.Sprint("DiceFrom ", i, " of ", seed), list, ok, diceByDefinition(seed, i, n))
	for k, die := range list {
		if at := dieAt(t, seed, i+k); at != die {
			t.Errorf("DiceFrom %d of %d: %v, but DieAt %d is %d", i, seed, list, i+k, at)
		}
	}
}

// The last die is that of the number 1000000, also where no dice follow it.
func TestDiceFrom(t *testing.T) {
	for _, seed := range someSeeds {
		for n := range 9 {
			wantDice(t, seed, 0, n)
			wantDice(t, seed, 599, n)
			wantDice(t, seed, min(maxThrow, maxThrow+1-n), n)
			if n > 0 {
				list, ok := impl.DiceFrom(seed, maxThrow+2-n, n)
				wantZero(t, fmt.Sprint("DiceFrom ", maxThrow+2-n, " of ", n), ok, list)
			}
		}
		for n, ok := range map[int]bool{0: true, 1: true, 2: false, 8: false, 9: false, -1: false} {
			list, got := impl.DiceFrom(seed, maxThrow, n)
			if got != ok || len(list) != max(n, 0) && ok {
				t.Errorf("DiceFrom 1000000 of %d dice: %v, %v", n, list, got)
			}
		}
		for n := -1; n < 10; n++ {
			list, ok := impl.DiceFrom(seed, maxThrow+1, n)
			wantZero(t, fmt.Sprint("DiceFrom 1000001 of ", n), ok, list)
		}
		list, ok := impl.DiceFrom(seed, 0, 9)
		wantZero(t, "DiceFrom of 9 dice", ok, list)
	}
}

func wantBelow(t *testing.T, seed, i, n int) {
	t.Helper()
	below, ok := impl.NumberBelow(seed, i, n)
	wantNumber(t, fmt.Sprint("NumberBelow ", n, " of ", seed, " and ", i), below, ok, residueByDefinition(n, seed, i, n))
	if below < 0 || below >= n {
		t.Errorf("NumberBelow %d of %d and %d: %d", n, seed, i, below)
	}
}

func TestNumbersBelow(t *testing.T) {
	for _, seed := range someSeeds {
		for _, i := range someThrows {
			for _, n := range []int{1, 2, 3, 6, 12, 40, 99, 100, 65536, 999999, 1000000} {
				wantBelow(t, seed, i, n)
			}
			for _, n := range []int{0, 1000001, 1000002, -1} {
				below, ok := impl.NumberBelow(seed, i, n)
				wantZero(t, fmt.Sprint("NumberBelow ", n), ok, below)
			}
		}
	}
	r := rand.New(rand.NewSource(1212))
	for range 3000 {
		wantBelow(t, drawnSeed(r), r.Intn(maxThrow+1), 1+r.Intn(1000000))
	}
}

// isPermutation reports whether a list has each of the numbers 0..n-1 once.
func isPermutation(list []int, n int) bool {
	sorted := slices.Sorted(slices.Values(list))
	for i, x := range sorted {
		if x != i {
			return false
		}
	}
	return len(list) == n
}

func wantShuffle(t *testing.T, seed, n int) {
	t.Helper()
	list, ok := impl.ShuffleBy(seed, n)
	wantList(t, fmt.Sprint("ShuffleBy ", seed, " of ", n), list, ok, shuffleByDefinition(seed, n))
	if !isPermutation(list, n) {
		t.Errorf("ShuffleBy %d of %d: %v", seed, n, list)
	}
}

func TestShuffles(t *testing.T) {
	for _, seed := range someSeeds {
		for n := range 41 {
			wantShuffle(t, seed, n)
		}
		for _, n := range []int{41, 42, -1, -40} {
			list, ok := impl.ShuffleBy(seed, n)
			wantZero(t, fmt.Sprint("ShuffleBy of ", n), ok, list)
		}
	}
	r := rand.New(rand.NewSource(1213))
	kept, exchanged := 0, 0
	for range 300 {
		seed := drawnSeed(r)
		wantShuffle(t, seed, r.Intn(41))
		if list, ok := impl.ShuffleBy(seed, 2); ok && list[0] == 0 {
			kept++
		} else {
			exchanged++
		}
	}
	if kept == 0 || exchanged == 0 {
		t.Error("two elements are never kept or never exchanged", kept, exchanged)
	}
}

func wantFaces(t *testing.T, seed, n int) {
	t.Helper()
	want := make([]int, 6)
	for i := range n {
		want[dieAt(t, seed, i)-1]++
	}
	list, ok := impl.FacesOf(seed, n)
	wantList(t, fmt.Sprint("FacesOf ", n, " dice of ", seed), list, ok, want)
	if sumOfList(list) != n {
		t.Errorf("FacesOf %d dice of %d: %v", n, seed, list)
	}
}

func sumOfList(list []int) int {
	total := 0
	for _, n := range list {
		total += n
	}
	return total
}

func TestFaces(t *testing.T) {
	for _, seed := range someSeeds {
		for _, n := range []int{0, 1, 2, 6, 7, 8, 9, 599, 600} {
			wantFaces(t, seed, n)
		}
		for _, n := range []int{601, 602, -1, -600} {
			list, ok := impl.FacesOf(seed, n)
			wantZero(t, fmt.Sprint("FacesOf ", n), ok, list)
		}
	}
	r := rand.New(rand.NewSource(1214))
	for range 50 {
		wantFaces(t, drawnSeed(r), r.Intn(601))
	}
	// Die 0 of 7 is 2, die 1 is 6 and die 2 is 3.
	list, ok := impl.FacesOf(7, 3)
	wantList(t, "FacesOf 3 dice of 7", list, ok, []int{0, 1, 1, 0, 0, 1})
}
