package tests

import (
	"fmt"
	"slices"
	"testing"

	"loop.example/g00886/impl"
)

// All lists of few dice are counted one by one.
func TestSumsOfFewDice(t *testing.T) {
	for n := range 6 {
		sums := map[int]int{}
		for _, throw := range throwsOf(n) {
			sums[sumOfList(throw)]++
		}
		atLeast := 0
		for sum := 100; sum >= -100; sum-- {
			atLeast += sums[sum]
			if ways := sumWays(t, n, sum); ways != sums[sum] {
				t.Errorf("SumWays of %d dice and %d: %d, want %d", n, sum, ways, sums[sum])
			}
			if ways := waysAtLeast(t, n, sum); ways != atLeast {
				t.Errorf("WaysAtLeast of %d dice and %d: %d, want %d", n, sum, ways, atLeast)
			}
		}
	}
}

// The ways of n dice are those of the others with each face of the last die.
func TestSumsAddUp(t *testing.T) {
	for n := range 9 {
		total := 0
		for sum := -100; sum <= 100; sum++ {
			ways := sumWays(t, n, sum)
			total += ways
			if sum < n || sum > 6*n {
				if ways != 0 {
					t.Errorf("SumWays of %d dice and %d: %d", n, sum, ways)
				}
			} else if mirrored := sumWays(t, n, 7*n-sum); ways == 0 || ways != mirrored {
				t.Errorf("SumWays of %d dice and %d: %d, and of %d: %d", n, sum, ways, 7*n-sum, mirrored)
			}
			if n > 0 && sum > -94 {
				others := 0
				for face := 1; face <= 6; face++ {
					others += sumWays(t, n-1, sum-face)
				}
				if ways != others {
					t.Errorf("SumWays of %d dice and %d: %d, want %d", n, sum, ways, others)
				}
			}
		}
		if total != power(6, n) {
			t.Errorf("SumWays of %d dice: %d in all", n, total)
		}
	}
}

func TestWaysAtLeastAddUp(t *testing.T) {
	for n := range 9 {
		for sum := -100; sum < 100; sum++ {
			if ways, next := waysAtLeast(t, n, sum), sumWays(t, n, sum)+waysAtLeast(t, n, sum+1); ways != next {
				t.Errorf("WaysAtLeast of %d dice and %d: %d, want %d", n, sum, ways, next)
			}
		}
		for _, sum := range []int{-100, -1, 0, n} {
			if ways := waysAtLeast(t, n, sum); ways != power(6, n) {
				t.Errorf("WaysAtLeast of %d dice and %d: %d", n, sum, ways)
			}
		}
		if last, none := waysAtLeast(t, n, 6*n), waysAtLeast(t, n, 6*n+1); last != 1 || none != 0 {
			t.Errorf("WaysAtLeast of %d dice: %d and %d", n, last, none)
		}
	}
}

func TestSumsBeyondTheLimits(t *testing.T) {
	for n := -1; n <= 10; n++ {
		for _, sum := range []int{-101, 101, -102, 102, 1 << 32, -1 << 32} {
			ways, ok := impl.SumWays(n, sum)
			wantZero(t, fmt.Sprint("SumWays of ", n, " and ", sum), ok, ways)
			ways, ok = impl.WaysAtLeast(n, sum)
			wantZero(t, fmt.Sprint("WaysAtLeast of ", n, " and ", sum), ok, ways)
		}
	}
	for _, n := range []int{-1, 9, 10, -8} {
		for sum := -100; sum <= 100; sum++ {
			ways, ok := impl.SumWays(n, sum)
			wantZero(t, fmt.Sprint("SumWays of ", n, " and ", sum), ok, ways)
			ways, ok = impl.WaysAtLeast(n, sum)
			wantZero(t, fmt.Sprint("WaysAtLeast of ", n, " and ", sum), ok, ways)
		}
	}
}

func TestGreatestFaces(t *testing.T) {
	for n := 1; n <= 5; n++ {
		counts := map[int]int{}
		for _, throw := range throwsOf(n) {
			counts[slices.Max(throw)]++
		}
		for x := 1; x <= 6; x++ {
			ways, ok := impl.GreatestOf(n, x)
			wantNumber(t, fmt.Sprint("GreatestOf ", n, " dice and ", x), ways, ok, counts[x])
		}
	}
	for n := 1; n <= 8; n++ {
		total := 0
		for x := 1; x <= 6; x++ {
			ways, ok := impl.GreatestOf(n, x)
			total += ways
			// Up to each face, these are the lists without greater faces.
			if !ok || total != power(x, n) {
				t.Errorf("GreatestOf %d dice up to %d: %d, %v", n, x, total, ok)
			}
		}
	}
	for _, x := range [][2]int{{0, 1}, {0, 0}, {0, 6}, {9, 1}, {9, 6}, {-1, 1}, {1, 0}, {1, 7}, {8, 0}, {8, 7}, {2, -1}, {2, 8}} {
		ways, ok := impl.GreatestOf(x[0], x[1])
		wantZero(t, fmt.Sprint("GreatestOf ", x), ok, ways)
	}
}
