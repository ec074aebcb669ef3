package tests

import (
	"math"
	"math/big"
	"math/rand"
	"testing"

	"loop.example/g00886/impl"
)

// maxSeed and maxThrow are the limits of seeds and of numbers i, as the
// document states them.
const (
	maxSeed  = 4611686016279904236
	maxThrow = 1000000
)

// wraps are the integers that are most likely to wrap around.
var wraps = []int{math.MinInt, math.MinInt + 1, -2147483648, -2147483647, -2147483629, -1, 0, 1, 2147483628, 2147483629, 2147483646, 2147483647, 2147483648, 1 << 62, math.MaxInt - 1, math.MaxInt}

// someSeeds are valid, the least and the greatest one among them.
var someSeeds = []int{0, 1, 2, 7, 2147483628, 2147483629, 2147483647, 2147483648, 1 << 40, 1 << 61, maxSeed - 1, maxSeed}

var badSeeds = append([]int{maxSeed + 1, maxSeed + 2, -2, math.MinInt / 2}, outside...)

// mixedNumbers computes the two numbers of a mix in numbers of any size, by
// the words of the definition.
func mixedNumbers(list []int) (*big.Int, *big.Int) {
	p, q := big.NewInt(2147483647), big.NewInt(2147483629)
	a, b := big.NewInt(7), big.NewInt(int64(len(list))+1)
	next := func(factor int64, n, x, other, modulus *big.Int) *big.Int {
		product := new(big.Int).Mul(big.NewInt(factor), n)
		// Mod is the Euclidean residue, which is never negative.
		return product.Mod(product.Add(product.Add(product, x), other), modulus)
	}
	for i := range len(list) + 3 {
		x := big.NewInt(1)
		if i < len(list) {
			x = big.NewInt(int64(list[i]))
		}
		a = next(16807, a, x, b, p)
		b = next(39373, b, x, a, q)
	}
	return a, b
}

func mixByDefinition(list []int) int {
	a, b := mixedNumbers(list)
	return int(new(big.Int).Add(new(big.Int).Mul(a, new(big.Int).Exp(big.NewInt(2), big.NewInt(31), nil)), b).Int64())
}

// residueByDefinition returns the residue of the first number of a mix.
func residueByDefinition(modulus int, list ...int) int {
	a, _ := mixedNumbers(list)
	return int(new(big.Int).Mod(a, big.NewInt(int64(modulus))).Int64())
}

func dieByDefinition(seed, i int) int {
	return 1 + residueByDefinition(6, seed, i)
}

func diceByDefinition(seed, i, n int) []int {
	var list []int
	for k := range n {
		list = append(list, dieByDefinition(seed, i+k))
	}
	return list
}

// shuffleByDefinition makes the exchanges one after the other.
func shuffleByDefinition(seed, n int) []int {
	var list []int
	for i := range n {
		list = append(list, i)
	}
	for k := n - 1; k > 0; k-- {
		i := residueByDefinition(k+1, seed, k, k+1)
		at, other := list[k], list[i]
		list[k], list[i] = other, at
	}
	return list
}

// bytesByIndex returns a list that begins with some numbers and goes on with
// the bytes of a string.
func bytesByIndex(s string, first ...int) []int {
	list := append([]int{}, first...)
	for i := 0; i < len(s); i++ {
		list = append(list, int(s[i]))
	}
	return list
}

// throwsOf returns all lists of n faces.
func throwsOf(n int) [][]int {
	if n == 0 {
		return [][]int{nil}
	}
	var list [][]int
	for _, shorter := range throwsOf(n - 1) {
		for face := 1; face <= 6; face++ {
			list = append(list, append(append([]int{}, shorter...), face))
		}
	}
	return list
}

func power(n, times int) int {
	result := 1
	for range times {
		result *= n
	}
	return result
}

func dieAt(t *testing.T, seed, i int) int {
	t.Helper()
	n, ok := impl.DieAt(seed, i)
	if !ok {
		t.Fatalf("DieAt %d of %d fails", i, seed)
	}
	return n
}

// countedWays requires SumWays or WaysAtLeast to succeed.
func countedWays(t *testing.T, count func(int, int) (int, bool), n, sum int) int {
	t.Helper()
	ways, ok := count(n, sum)
	if !ok {
		t.Fatalf("no number of ways of %d dice and %d", n, sum)
	}
	return ways
}

func sumWays(t *testing.T, n, sum int) int {
	t.Helper()
	return countedWays(t, impl.SumWays, n, sum)
}

func waysAtLeast(t *testing.T, n, sum int) int {
	t.Helper()
	return countedWays(t, impl.WaysAtLeast, n, sum)
}

// drawnSeed draws a seed of any size.
func drawnSeed(r *rand.Rand) int {
	if r.Intn(3) == 0 {
		return someSeeds[r.Intn(len(someSeeds))]
	}
	return r.Intn(maxSeed + 1)
}

// drawnNumbers draws a list of any integers.
func drawnNumbers(r *rand.Rand, n int) []int {
	list := make([]int, n)
	for i := range list {
		switch r.Intn(4) {
		case 0:
			list[i] = wraps[r.Intn(len(wraps))]
		case 1:
			list[i] = r.Intn(200) - 100
		default:
			list[i] = int(r.Uint64())
		}
	}
	return list
}

// drawnText draws a string of n bytes, of characters of one to four bytes and
// of bytes that are none.
func drawnText(r *rand.Rand, n int) string {
	parts := []string{"a", "Z", "\x00", "\x7f", "\x80", "\xff", "\xc3", "é", "€", "\ufffd", "𝄞", "\xed\xa0\x80", "\xf4\x90\x80\x80"}
	s := ""
	for len(s) < n {
		if part := parts[r.Intn(len(parts))]; len(s)+len(part) <= n {
			s += part
		}
	}
	return s
}
