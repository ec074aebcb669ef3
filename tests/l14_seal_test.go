package tests

import (
	"fmt"
	"math/rand"
	"strings"
	"testing"

	"loop.example/g00886/impl"
)

func TestLimitOfRounds(t *testing.T) {
	if impl.MaxRound != 4 {
		t.Error(impl.MaxRound)
	}
}

// A seal opens to what was sealed and to no other text whose mix differs.
func TestSealExample(t *testing.T) {
	hold := opening(5, "hold")
	x, ok := impl.SealOrders(3, 1, hold)
	if !ok {
		t.Fatal("no seal")
	}
	wantOpens(t, x, hold, true)
	wantOpens(t, x, opening(5, "go"), false)
	wantSealText(t, seal(3, 1, 7), "seal 3 1 7")
}

// The mixes have been computed step by step in another language.
func TestSealsByHand(t *testing.T) {
	for _, c := range []struct {
		turn, side int
		o          impl.Opening
		want       int
	}{
		{3, 1, opening(5, "hold"), 3004114217736168105},
		{0, 0, opening(0, ""), 2316945999392921323},
		{maxTurn, 1, opening(maxSeed, strings.Repeat("\xff", maxOpened)), 3552104794048658597},
	} {
		x, ok := impl.SealOrders(c.turn, c.side, c.o)
		if !ok || x != seal(c.turn, c.side, c.want) {
			t.Errorf("SealOrders of %v: %v, %v", c, x, ok)
		}
	}
}

func TestValidSeals(t *testing.T) {
	for turn := -3; turn <= maxTurn+3; turn++ {
		for side := -2; side <= 3; side++ {
			for _, number := range someSeeds {
				wantIsSealed(t, seal(turn, side, number), 0 <= turn && turn <= 30 && (side == 0 || side == 1))
			}
		}
	}
	for _, x := range invalidSeals() {
		wantIsSealed(t, x, false)
	}
}

// Any number in the range is a seal, whether or not anything opens it.
func TestEdgesOfSeals(t *testing.T) {
	for _, turn := range []int{-1, 0, maxTurn, maxTurn + 1} {
		for _, side := range []int{-1, 0, 1, 2} {
			for _, number := range []int{-1, 0, maxSeed, maxSeed + 1} {
				x := seal(turn, side, number)
				if turn == -1 || turn > maxTurn || side == -1 || side > 1 || number == -1 || number > maxSeed {
					wantIsSealed(t, x, false)
					wantNoOpens(t, x, opening(5, "hold"))
				} else {
					wantIsSealed(t, x, true)
					wantOpens(t, x, opening(5, "hold"), false)
				}
			}
		}
	}
}

func TestSealsOfTexts(t *testing.T) {
	for n, text := range openedTexts() {
		for k, nonce := range []int{0, 5, maxSeed} {
			wantSeal(t, (n+10*k)%(maxTurn+1), n%2, opening(nonce, text))
		}
	}
}

func TestSealsOfAllTurns(t *testing.T) {
	for turn := -2; turn <= maxTurn+2; turn++ {
		for side := -1; side <= 2; side++ {
			for _, nonce := range someSeeds {
				o := opening(nonce, "side 0\n")
				if 0 <= turn && turn <= maxTurn && 0 <= side && side <= 1 {
					wantSeal(t, turn, side, o)
				} else {
					wantNoSeal(t, turn, side, o)
				}
			}
		}
	}
}

func TestDrawnSeals(t *testing.T) {
	r := rand.New(rand.NewSource(1411))
	for range 1000 {
		wantSeal(t, r.Intn(maxTurn+1), r.Intn(2), drawnOpening(r))
	}
}

// The limit is one of bytes, not of characters, and the text of an opening may
// have any bytes.
func TestLengthsOfOpenedTexts(t *testing.T) {
	for n := range maxOpened + 10 {
		for _, text := range []string{strings.Repeat("x", n), strings.Repeat("\x80", n), strings.Repeat("é", n)[:n]} {
			if n <= maxOpened {
				wantSeal(t, 7, 0, opening(1, text))
			} else {
				wantNoSeal(t, 7, 0, opening(1, text))
				wantNoOpens(t, sealByDefinition(7, 0, opening(1, text)), opening(1, text))
			}
		}
	}
}

// wantOtherSeals requires two openings to have different seals, neither of which
// opens to the other opening.
func wantOtherSeals(t *testing.T, o, other impl.Opening) {
	t.Helper()
	for _, turn := range []int{0, 3, maxTurn} {
		for side := range 2 {
			x, ok := impl.SealOrders(turn, side, o)
			y, ok2 := impl.SealOrders(turn, side, other)
			if !ok || !ok2 || x == y {
				t.Errorf("SealOrders of %#v and %#v: %v, %v and %v, %v", o, other, x, ok, y, ok2)
			}
			wantOpens(t, x, other, false)
			wantOpens(t, y, o, false)
		}
	}
}

// The openings differ in one byte, in their nonce, or in the length of their
// text alone.
func TestSealsOfOtherOpenings(t *testing.T) {
	text := "side 0\n0 05 5\n"
	for i := range len(text) {
		for _, bits := range []byte{1, 32, 128, 255} {
			wantOtherSeals(t, opening(5, text), opening(5, text[:i]+string([]byte{text[i] ^ bits})+text[i+1:]))
		}
		wantOtherSeals(t, opening(5, text), opening(5, text[:i]))
	}
	for n := range maxOpened {
		wantOtherSeals(t, opening(5, strings.Repeat("\x00", n)), opening(5, strings.Repeat("\x00", n+1)))
	}
	for n, nonce := range someSeeds {
		wantOtherSeals(t, opening(nonce, text), opening(otherNumber(nonce), text))
		for _, other := range someSeeds[:n] {
			wantOtherSeals(t, opening(nonce, ""), opening(other, ""))
		}
	}
	wantOtherSeals(t, opening(5, "é"), opening(5, "\xe9"))
	wantOtherSeals(t, opening(5, "\xff"), opening(5, "\xfe"))
	wantOtherSeals(t, opening(5, "\xff"), opening(5, "\ufffd"))
}

// A nonce is no first byte of the text, nor are turn and side exchanged.
func TestPlacesInSeals(t *testing.T) {
	wantOtherSeals(t, opening('a', "b"), opening('b', "a"))
	x, _ := impl.SealOrders(1, 0, opening(0, ""))
	y, _ := impl.SealOrders(0, 1, opening(0, ""))
	if x.Seal == y.Seal {
		t.Error("turn and side are mixed alike")
	}
}

// A valid seal with another turn, another side or another number does not open.
func TestOtherSealsOfAnOpening(t *testing.T) {
	r := rand.New(rand.NewSource(1412))
	for range 300 {
		x, o := drawnSeal(r)
		wantOpens(t, x, o, true)
		for turn := range maxTurn + 1 {
			wantOpens(t, seal(turn, x.Side, x.Seal), o, turn == x.Turn)
		}
		wantOpens(t, seal(x.Turn, 1-x.Side, x.Seal), o, false)
		for _, number := range append([]int{otherNumber(x.Seal), x.Seal ^ 1<<31, x.Seal ^ 1, maxSeed - x.Seal}, someSeeds...) {
			wantOpens(t, seal(x.Turn, x.Side, number), o, number == x.Seal)
		}
	}
}

func TestInvalidOpenings(t *testing.T) {
	for _, o := range invalidOpenings() {
		for _, turn := range []int{0, 3, maxTurn} {
			for side := range 2 {
				wantNoSeal(t, turn, side, o)
				wantNoOpens(t, seal(turn, side, 7), o)
				if len(o.Text) <= 196 {
					wantNoOpens(t, sealByDefinition(turn, side, o), o)
				}
			}
		}
	}
}

func TestInvalidSeals(t *testing.T) {
	openings := []impl.Opening{opening(0, ""), opening(5, "hold"), opening(maxSeed, strings.Repeat("x", maxOpened))}
	for _, o := range append(openings, invalidOpenings()[:5]...) {
		for _, x := range invalidSeals() {
			wantNoOpens(t, x, o)
		}
		for _, turn := range badTurns {
			for side := -1; side <= 2; side++ {
				wantNoSeal(t, turn, side, o)
				wantNoOpens(t, sealByDefinition(turn, side, o), o)
			}
		}
		for _, side := range badSides {
			for _, turn := range []int{-1, 0, 3, maxTurn, maxTurn + 1} {
				wantNoSeal(t, turn, side, o)
				wantNoOpens(t, sealByDefinition(turn, side, o), o)
			}
		}
	}
}

// wantAnySeal requires the functions with a seal to succeed exactly within the
// limits.
func wantAnySeal(t *testing.T, x impl.Sealed, o impl.Opening) {
	t.Helper()
	placed := 0 <= x.Turn && x.Turn <= 30 && (x.Side == 0 || x.Side == 1)
	valid := placed && 0 <= x.Seal && x.Seal <= maxSeed
	opened := 0 <= o.Nonce && o.Nonce <= maxSeed && len(o.Text) <= 150
	what := fmt.Sprintf(" of %v and %#v", x, o)
	wantIsSealed(t, x, valid)
	if _, ok := impl.SealOrders(x.Turn, x.Side, o); ok != (placed && opened) {
		t.Errorf("SealOrders%s: %v", what, ok)
	}
	is, ok := impl.OpensTo(x, o)
	if ok != (valid && opened) || is != (ok && x == sealByDefinition(x.Turn, x.Side, o)) {
		t.Errorf("OpensTo%s: %v, %v", what, is, ok)
	}
	if n, ok := impl.FirstBadOpening([]impl.Sealed{x}, []impl.Opening{o}); ok != (valid && opened) || ok && n == 1 != is {
		t.Errorf("FirstBadOpening%s: %d, %v", what, n, ok)
	}
	if chain, ok := impl.SealChain([]impl.Sealed{x}); ok != valid || len(chain) == 1 != ok {
		t.Errorf("SealChain%s: %v, %v", what, chain, ok)
	}
	text, ok := impl.SealedText(x)
	if ok != valid || ok != (text != "") {
		t.Errorf("SealedText%s: %q, %v", what, text, ok)
	}
	if _, ok := impl.ParseSealed(writtenSeal(x)); ok != valid {
		t.Errorf("ParseSealed%s: %v", what, ok)
	}
}

func TestAnyNumbersForSeals(t *testing.T) {
	r := rand.New(rand.NewSource(1413))
	numbers := append([]int{0, 1, 2, 29, 30, 31, 1 << 32, maxSeed, maxSeed + 1}, outside...)
	for range 20000 {
		list := drawnNumbers(r, 4)
		for k := range list {
			if r.Intn(4) > 0 {
				list[k] = numbers[r.Intn(len(numbers))]
			}
		}
		o := opening(list[3], drawnText(r, r.Intn(5)))
		if r.Intn(5) == 0 {
			o.Text = drawnText(r, maxOpened-1+r.Intn(4))
		}
		x := seal(list[0], list[1], list[2])
		if r.Intn(2) == 0 {
			x, o = drawnSeal(r)
		}
		wantAnySeal(t, x, o)
	}
}
