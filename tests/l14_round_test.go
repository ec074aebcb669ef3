package tests

import (
	"math/rand"
	"slices"
	"testing"

	"loop.example/g00886/impl"
)

func TestEmptyRound(t *testing.T) {
	wantOpenings(t, nil, nil, 0)
	wantOpenings(t, []impl.Sealed{}, []impl.Opening{}, 0)
	wantChain(t)
	chain, ok := impl.SealChain([]impl.Sealed{})
	wantList(t, "SealChain of an empty list", chain, ok, nil)
	wantBadSeal(t, nil, nil, 0)
	wantBadSeal(t, []impl.Sealed{}, []int{}, 0)
}

// Every set of bad openings is tried, the empty one and the whole round among
// them.
func TestBadOpenings(t *testing.T) {
	r := rand.New(rand.NewSource(1421))
	for n := range 5 {
		for bad := range 1 << n {
			l, o := drawnRound(r, n)
			want := n
			for i := n - 1; i >= 0; i-- {
				if bad>>i&1 == 1 {
					o[i].Nonce = otherNumber(o[i].Nonce)
					want = i
				}
			}
			wantOpenings(t, l, o, want)
		}
	}
}

// Each kind of a seal that does not belong to its opening is found at each
// index.
func TestBadOpeningsOfEachKind(t *testing.T) {
	r := rand.New(rand.NewSource(1422))
	for n := 1; n <= 4; n++ {
		l, o := drawnRound(r, n)
		wantOpenings(t, l, o, n)
		for i, x := range l {
			wantOpenings(t, with(l, i, seal((x.Turn+1)%31, x.Side, x.Seal)), o, i)
			wantOpenings(t, with(l, i, seal(x.Turn, 1-x.Side, x.Seal)), o, i)
			wantOpenings(t, with(l, i, seal(x.Turn, x.Side, otherNumber(x.Seal))), o, i)
			wantOpenings(t, l, with(o, i, opening(o[i].Nonce, "")), i)
			wantOpenings(t, l, with(o, i, opening(otherNumber(o[i].Nonce), o[i].Text)), i)
		}
		// Openings belong to the seals with their index.
		if n > 1 {
			slices.Reverse(o)
			wantOpenings(t, l, o, 0)
		}
	}
}

// The same seal may be opened more than once.
func TestSameOpenings(t *testing.T) {
	x, o := sealByDefinition(3, 1, opening(5, "hold")), opening(5, "hold")
	for n := range 5 {
		wantOpenings(t, slices.Repeat([]impl.Sealed{x}, n), slices.Repeat([]impl.Opening{o}, n), n)
	}
}

func TestRoundsOfOtherLengths(t *testing.T) {
	r := rand.New(rand.NewSource(1423))
	for n := range 8 {
		for k := range 8 {
			l, _ := drawnRound(r, n)
			_, o := drawnRound(r, k)
			if n != k || n > 4 {
				wantNoOpenings(t, l, o)
			}
		}
		l, o := drawnRound(r, n)
		if n > 4 {
			wantNoOpenings(t, l, o)
			wantNoOpenings(t, with(l, 0, seal(0, 0, 0)), o)
			continue
		}
		wantOpenings(t, l, o, n)
		if n > 0 {
			wantNoOpenings(t, l[:n-1], o)
			wantNoOpenings(t, l, o[:n-1])
			wantNoOpenings(t, nil, o)
			wantNoOpenings(t, l, nil)
		}
	}
}

// Everything is checked before the first bad opening is sought.
func TestInvalidRounds(t *testing.T) {
	r := rand.New(rand.NewSource(1424))
	for n := 1; n <= 4; n++ {
		good, goodOpenings := drawnRound(r, n)
		bad := with(good, 0, seal(good[0].Turn, good[0].Side, otherNumber(good[0].Seal)))
		for i := range n {
			for _, x := range invalidSeals() {
				wantNoOpenings(t, with(good, i, x), goodOpenings)
				wantNoOpenings(t, with(bad, i, x), goodOpenings)
			}
			for _, o := range invalidOpenings() {
				wantNoOpenings(t, good, with(goodOpenings, i, o))
				wantNoOpenings(t, bad, with(goodOpenings, i, o))
			}
		}
	}
}

// The mixes have been computed step by step in another language.
func TestJointSeedsByHand(t *testing.T) {
	for want, nonces := range map[int][]int{1423000353081531389: {5}, 708689475257722172: {5, 6}, 94129490564812647: {6, 5}} {
		n, ok := impl.JointSeed(3, nonces)
		wantNumber(t, "JointSeed of 3", n, ok, want)
	}
}

func TestJointSeeds(t *testing.T) {
	r := rand.New(rand.NewSource(1425))
	for turn := range maxTurn + 1 {
		for _, nonce := range someSeeds {
			wantJoint(t, turn, nonce)
			wantJoint(t, turn, nonce, drawnSeed(r))
			wantJoint(t, turn, drawnSeed(r), nonce, nonce)
			wantJoint(t, turn, drawnSeed(r), drawnSeed(r), drawnSeed(r), nonce)
		}
	}
}

// The seed of a turn depends on each nonce, on their order and on their number.
func TestJointSeedsDiffer(t *testing.T) {
	seeds := map[int][]int{}
	for _, list := range [][]int{{5}, {6}, {0}, {0, 0}, {0, 0, 0}, {0, 0, 0, 0}, {5, 6}, {6, 5}, {5, 6, 7}, {7, 6, 5}, {6, 5, 7}, {5, 6, 7, 8}, {5, 6, 8, 7}, {8, 6, 7, 5}} {
		for _, turn := range []int{0, 3, 5, maxTurn} {
			wantJoint(t, turn, list...)
			n, _ := impl.JointSeed(turn, list)
			if other, found := seeds[n]; found {
				t.Errorf("JointSeed of %d and %v is one of %v", turn, list, other)
			}
			seeds[n] = list
		}
	}
}

func TestInvalidJointSeeds(t *testing.T) {
	for _, turn := range []int{0, 3, maxTurn} {
		wantNoJoint(t, turn)
		wantJoint(t, turn, 1, 2, 3, 4)
		wantNoJoint(t, turn, 1, 2, 3, 4, 5)
		wantNoJoint(t, turn, make([]int, 6)...)
		wantNoJoint(t, turn, make([]int, 198)...)
		wantNoJoint(t, turn, make([]int, 100000)...)
		for _, nonce := range badSeeds {
			for n := 1; n <= 4; n++ {
				for i := range n {
					wantNoJoint(t, turn, with(make([]int, n), i, nonce)...)
				}
			}
		}
	}
	for _, turn := range badTurns {
		for n := range 6 {
			wantNoJoint(t, turn, make([]int, n)...)
		}
	}
}

// The mixes have been computed step by step in another language.
func TestChainsByHand(t *testing.T) {
	chain, ok := impl.SealChain([]impl.Sealed{seal(3, 0, 7), seal(3, 1, 7)})
	wantList(t, "SealChain of two seals", chain, ok, []int{1749038999030636407, 4233063172232035720})
	chain, ok = impl.SealChain([]impl.Sealed{seal(maxTurn, 1, maxSeed)})
	wantList(t, "SealChain of one seal", chain, ok, []int{247410270257289991})
}

func TestChains(t *testing.T) {
	r := rand.New(rand.NewSource(1426))
	for range 300 {
		for n := range 5 {
			l, _ := drawnRound(r, n)
			wantChain(t, l...)
		}
	}
	for _, turn := range []int{0, maxTurn} {
		for side := range 2 {
			for _, number := range someSeeds {
				wantChain(t, seal(turn, side, number))
				wantChain(t, seal(0, 0, 0), seal(turn, side, number), seal(maxTurn, 1, maxSeed))
			}
		}
	}
}

// The same seal has another number at each index, and those before it are those
// of the shorter chain.
func TestChainsOfOneSeal(t *testing.T) {
	for _, x := range []impl.Sealed{seal(0, 0, 0), seal(3, 1, 7), seal(maxTurn, 1, maxSeed)} {
		l := slices.Repeat([]impl.Sealed{x}, 4)
		whole, ok := impl.SealChain(l)
		wantList(t, "SealChain of one seal", whole, ok, chainByDefinition(l))
		for n := range 5 {
			wantChain(t, l[:n]...)
			chain, ok := impl.SealChain(l[:n])
			wantList(t, "SealChain of its beginning", chain, ok, whole[:n])
		}
		for i, n := range whole {
			if slices.Contains(whole[:i], n) {
				t.Errorf("the chain of %v repeats: %v", l, whole)
			}
		}
	}
}

// Each seal has a part in its own number and in those after it, and in no other.
func TestChainsDiffer(t *testing.T) {
	r := rand.New(rand.NewSource(1427))
	for range 100 {
		l, _ := drawnRound(r, 4)
		chain, _ := impl.SealChain(l)
		for i, x := range l {
			for _, y := range []impl.Sealed{seal((x.Turn+1)%31, x.Side, x.Seal), seal(x.Turn, 1-x.Side, x.Seal), seal(x.Turn, x.Side, otherNumber(x.Seal))} {
				other := with(l, i, y)
				wantChain(t, other...)
				wantBadSeal(t, other, chain, i)
				changed, _ := impl.SealChain(other)
				for k := range chain {
					if chain[k] == changed[k] != (k < i) {
						t.Errorf("number %d of the chain, where seal %d differs: %d and %d", k, i, chain[k], changed[k])
					}
				}
			}
		}
	}
}

// Every set of differing numbers is tried.
func TestBadSeals(t *testing.T) {
	r := rand.New(rand.NewSource(1428))
	for n := range 5 {
		for bad := range 1 << n {
			l, _ := drawnRound(r, n)
			chain, want := chainByDefinition(l), n
			for i := n - 1; i >= 0; i-- {
				if bad>>i&1 == 1 {
					chain[i] = otherNumber(chain[i])
					want = i
				}
			}
			wantBadSeal(t, l, chain, want)
		}
	}
}

// Any integers may be in the list that is looked at.
func TestBadSealsOfAnyNumbers(t *testing.T) {
	r := rand.New(rand.NewSource(1429))
	for n := 1; n <= 4; n++ {
		l, _ := drawnRound(r, n)
		chain := chainByDefinition(l)
		for i := range n {
			for _, x := range slices.Concat(wraps, badSeeds, []int{0, chain[i] + 1, chain[i] - 1, -chain[i], chain[i] ^ 1<<62, chain[i] ^ -1<<63, chain[i] ^ 1<<31, l[i].Seal}) {
				wantBadSeal(t, l, with(chain, i, x), i)
			}
		}
		wantBadSeal(t, l, make([]int, n), 0)
	}
}

func TestChainsOfOtherLengths(t *testing.T) {
	r := rand.New(rand.NewSource(1430))
	for n := range 5 {
		l, _ := drawnRound(r, n)
		chain := chainByDefinition(l)
		wantBadSeal(t, l, chain, n)
		for k := range n {
			wantNoBadSeal(t, l, chain[:k])
		}
		for _, more := range [][]int{{0}, {-1}, {7, 7}, make([]int, 100)} {
			wantNoBadSeal(t, l, append(slices.Clone(chain), more...))
		}
		if n > 0 {
			wantNoBadSeal(t, l, nil)
			wantNoBadSeal(t, l[:n-1], chain)
			wantNoBadSeal(t, nil, chain)
		}
	}
}

func TestInvalidChains(t *testing.T) {
	r := rand.New(rand.NewSource(1431))
	for _, n := range []int{5, 6, 100} {
		l, _ := drawnRound(r, n)
		wantNoChain(t, l...)
		wantNoChain(t, slices.Repeat([]impl.Sealed{seal(0, 0, 0)}, n)...)
	}
	for n := 1; n <= 4; n++ {
		l, _ := drawnRound(r, n)
		for i := range n {
			for _, x := range invalidSeals() {
				wantNoChain(t, with(l, i, x)...)
			}
		}
	}
}
