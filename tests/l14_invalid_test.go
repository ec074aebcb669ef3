package tests

import (
	"math/rand"
	"slices"
	"testing"

	"loop.example/g00886/impl"
)

// rounds are the lists that the functions of the chapter take, with elements
// behind their lengths.
type rounds struct {
	seals    []impl.Sealed
	openings []impl.Opening
	numbers  []int
}

// drawnRounds returns lists of n elements, of which all may be wrong.
func drawnRounds(r *rand.Rand, n int) rounds {
	l, o := drawnRound(r, n+3)
	numbers := append(chainByDefinition(l[:n]), 7, -1, maxSeed)
	if n > 0 {
		switch r.Intn(4) {
		case 0:
			l[r.Intn(n)] = invalidSeals()[r.Intn(20)]
		case 1:
			o[r.Intn(n)] = invalidOpenings()[r.Intn(20)]
		case 2:
			numbers[r.Intn(n)] = wraps[r.Intn(len(wraps))]
		}
	}
	return rounds{l[:n], o[:n], numbers[:n]}
}

func (x rounds) whole() rounds {
	return rounds{x.seals[:cap(x.seals)], x.openings[:cap(x.openings)], x.numbers[:cap(x.numbers)]}
}

func (x rounds) copied() rounds {
	return rounds{slices.Clone(x.seals), slices.Clone(x.openings), slices.Clone(x.numbers)}
}

func sameRounds(x, y rounds) bool {
	return slices.Equal(x.seals, y.seals) && slices.Equal(x.openings, y.openings) && slices.Equal(x.numbers, y.numbers)
}

// results are what the functions of the chapter with lists return.
type results struct {
	opening, joint, bad       int
	openingOK, jointOK, badOK bool
	chainOK                   bool
	chain                     string
}

// resultsOf calls the functions with lists, and overwrites and extends what they
// return.
func resultsOf(x rounds) results {
	var y results
	y.opening, y.openingOK = impl.FirstBadOpening(x.seals, x.openings)
	y.joint, y.jointOK = impl.JointSeed(3, x.numbers)
	y.bad, y.badOK = impl.FirstBadSeal(x.seals, x.numbers)
	chain, ok := impl.SealChain(x.seals)
	for _, n := range chain {
		y.chain += writtenSeal(seal(0, 0, n))
	}
	y.chainOK = ok
	overwrite(chain)
	return y
}

// What lies behind the lists is neither read nor written, and the lists stay as
// they are.
func TestRoundsAreNotChanged(t *testing.T) {
	r := rand.New(rand.NewSource(1451))
	counts := map[bool]int{}
	for range 300 {
		for n := range 6 {
			x := drawnRounds(r, n)
			kept := x.whole().copied()
			got := resultsOf(x)
			if !sameRounds(x.whole(), kept) {
				t.Fatalf("%v is changed to %v", kept, x.whole())
			}
			clipped := rounds{slices.Clip(slices.Clone(x.seals)), slices.Clip(slices.Clone(x.openings)), slices.Clip(slices.Clone(x.numbers))}
			if alone := resultsOf(clipped); alone != got {
				t.Fatalf("%v, without spare capacity %v", got, alone)
			}
			counts[got.openingOK && got.jointOK && got.badOK && got.chainOK]++
		}
	}
	if counts[true] < 100 || counts[false] < 100 {
		t.Errorf("rounds that are valid and not: %v", counts)
	}
}

func TestChainsAreNew(t *testing.T) {
	r := rand.New(rand.NewSource(1452))
	calls := map[string]func() ([]int, bool){}
	var kept, given [][]impl.Sealed
	for n := 1; n <= 4; n++ {
		l, _ := drawnRound(r, n)
		kept, given = append(kept, slices.Clone(l)), append(given, l)
		calls["SealChain of "+writtenSeal(l[0])] = func() ([]int, bool) { return impl.SealChain(l) }
	}
	wantNewLists(t, calls)
	for n := range given {
		if !slices.Equal(given[n], kept[n]) {
			t.Errorf("%v is changed to %v", kept[n], given[n])
		}
	}
}

// A chain that is overwritten and extended does not change what is found with
// another one.
func TestChainsAreApart(t *testing.T) {
	r := rand.New(rand.NewSource(1453))
	l, _ := drawnRound(r, 4)
	first, _ := impl.SealChain(l)
	second, _ := impl.SealChain(l[:3])
	overwrite(first)
	wantBadSeal(t, l[:3], second, 3)
	wantBadSeal(t, l, first, 0)
	wantChain(t, l...)
}

// The results of a call depend on its arguments alone.
func TestSealsAreRepeated(t *testing.T) {
	r := rand.New(rand.NewSource(1454))
	for range 100 {
		x, o := drawnSeal(r)
		y, ok := impl.SealOrders(x.Turn, x.Side, o)
		wantNoSeal(t, -1, x.Side, o)
		z, ok2 := impl.SealOrders(x.Turn, x.Side, o)
		if !ok || !ok2 || y != x || z != x {
			t.Errorf("SealOrders of %d, %d and %#v: %v and %v, want %v", x.Turn, x.Side, o, y, z, x)
		}
	}
}
