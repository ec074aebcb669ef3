package tests

import (
	"fmt"
	"math/rand"
	"slices"
	"strings"
	"testing"

	"loop.example/g00886/impl"
)

// maxTurn and maxOpened are the limits of the turn of a seal and of the bytes of
// an opened text, as the document states them.
const (
	maxTurn   = 30
	maxOpened = 150
)

var badTurns = append([]int{maxTurn + 1, maxTurn + 2, -2, 100, 1 << 32, -1 << 32, 1<<32 + 3, 1 << 62}, outside...)

var badSides = append([]int{2, 3, -2, 256, 1 << 32, -1 << 32, 1<<32 + 1, 1 << 62}, outside...)

func seal(turn, side, number int) impl.Sealed {
	return impl.Sealed{Turn: turn, Side: side, Seal: number}
}

func opening(nonce int, text string) impl.Opening {
	return impl.Opening{Nonce: nonce, Text: text}
}

// openedTexts are texts of an opening, the empty one and such of 150 bytes among
// them.
func openedTexts() []string {
	r := rand.New(rand.NewSource(1401))
	return append(strangeTexts(), "side 0\n0 05 5\n2 0 -\n", strings.Repeat("x", maxOpened-1), strings.Repeat("x", maxOpened), strings.Repeat("\x00", maxOpened), strings.Repeat("\xff", maxOpened),
		strings.Repeat("é", maxOpened/2), strings.Repeat("€", maxOpened/3), drawnText(r, maxOpened-1), drawnText(r, maxOpened))
}

// longTexts have too many bytes for an opening, but some of them not too many
// characters.
func longTexts() []string {
	r := rand.New(rand.NewSource(1402))
	return []string{strings.Repeat("x", maxOpened+1), strings.Repeat("\x00", maxOpened+1), strings.Repeat("\xff", maxOpened+1), strings.Repeat("é", maxOpened/2) + "x", strings.Repeat("é", maxOpened), strings.Repeat("𝄞", 38),
		drawnText(r, maxOpened+1), drawnText(r, 195), drawnText(r, 196), drawnText(r, 197), drawnText(r, 200), drawnText(r, 201), strings.Repeat("x", 100000)}
}

// invalidSeals have one number that is out of its range, or all three.
func invalidSeals() []impl.Sealed {
	var list []impl.Sealed
	for _, turn := range badTurns {
		list = append(list, seal(turn, 0, 0), seal(turn, 1, maxSeed), seal(turn, turn, turn))
	}
	for _, side := range badSides {
		list = append(list, seal(0, side, 0), seal(maxTurn, side, maxSeed))
	}
	for _, number := range badSeeds {
		list = append(list, seal(0, 0, number), seal(maxTurn, 1, number))
	}
	return list
}

func invalidOpenings() []impl.Opening {
	var list []impl.Opening
	for _, nonce := range badSeeds {
		list = append(list, opening(nonce, ""), opening(nonce, "hold"), opening(nonce, strings.Repeat("x", maxOpened+1)))
	}
	for _, text := range longTexts() {
		list = append(list, opening(0, text), opening(5, text), opening(maxSeed, text))
	}
	return list
}

func sealByDefinition(turn, side int, o impl.Opening) impl.Sealed {
	return seal(turn, side, mixByDefinition(bytesByIndex(o.Text, 11, turn, side, o.Nonce)))
}

func chainByDefinition(l []impl.Sealed) []int {
	var chain []int
	before := 0
	for _, x := range l {
		before = mixByDefinition([]int{13, before, x.Turn, x.Side, x.Seal})
		chain = append(chain, before)
	}
	return chain
}

func drawnOpening(r *rand.Rand) impl.Opening {
	return opening(drawnSeed(r), drawnText(r, r.Intn(maxOpened+1)))
}

// drawnSeal returns a seal and an opening to which it opens.
func drawnSeal(r *rand.Rand) (impl.Sealed, impl.Opening) {
	o := drawnOpening(r)
	return sealByDefinition(r.Intn(maxTurn+1), r.Intn(2), o), o
}

// drawnRound returns n seals and openings to which they open.
func drawnRound(r *rand.Rand, n int) ([]impl.Sealed, []impl.Opening) {
	var l []impl.Sealed
	var openings []impl.Opening
	for range n {
		x, o := drawnSeal(r)
		l, openings = append(l, x), append(openings, o)
	}
	return l, openings
}

// with returns a list with another element at an index.
func with[T any](list []T, i int, x T) []T {
	changed := slices.Clone(list)
	changed[i] = x
	return changed
}

// otherNumber returns a seed that is near another one.
func otherNumber(n int) int {
	if n == maxSeed {
		return n - 1
	}
	return n + 1
}

func wantIsSealed(t *testing.T, x impl.Sealed, want bool) {
	t.Helper()
	if is := impl.IsSealed(x); is != want {
		t.Errorf("IsSealed of %v: %v", x, is)
	}
}

// wantOpens requires OpensTo to succeed with a result.
func wantOpens(t *testing.T, x impl.Sealed, o impl.Opening, want bool) {
	t.Helper()
	if is, ok := impl.OpensTo(x, o); !ok || is != want {
		t.Errorf("OpensTo of %v and %#v: %v, %v, want %v", x, o, is, ok, want)
	}
}

func wantNoOpens(t *testing.T, x impl.Sealed, o impl.Opening) {
	t.Helper()
	is, ok := impl.OpensTo(x, o)
	wantZero(t, fmt.Sprintf("OpensTo of %v and %#v", x, o), ok, is)
}

// wantSeal requires the seal of an opening, which opens to it, to be the one of
// the definition.
func wantSeal(t *testing.T, turn, side int, o impl.Opening) {
	t.Helper()
	x, ok := impl.SealOrders(turn, side, o)
	want := sealByDefinition(turn, side, o)
	if !ok || x != want {
		t.Errorf("SealOrders of %d, %d and %#v: %v, %v, want %v", turn, side, o, x, ok, want)
	}
	if mix, ok := impl.MixNumbers(bytesByIndex(o.Text, 11, turn, side, o.Nonce)); !ok || mix != x.Seal {
		t.Errorf("SealOrders of %d, %d and %#v: %v, but MixNumbers is %d", turn, side, o, x, mix)
	}
	wantIsSealed(t, x, true)
	wantOpens(t, x, o, true)
}

func wantNoSeal(t *testing.T, turn, side int, o impl.Opening) {
	t.Helper()
	x, ok := impl.SealOrders(turn, side, o)
	wantZero(t, fmt.Sprintf("SealOrders of %d, %d and %#v", turn, side, o), ok, x)
}

// wantOpenings requires FirstBadOpening to succeed with an index.
func wantOpenings(t *testing.T, l []impl.Sealed, o []impl.Opening, want int) {
	t.Helper()
	n, ok := impl.FirstBadOpening(l, o)
	wantNumber(t, fmt.Sprintf("FirstBadOpening of %v and %#v", l, o), n, ok, want)
}

func wantNoOpenings(t *testing.T, l []impl.Sealed, o []impl.Opening) {
	t.Helper()
	n, ok := impl.FirstBadOpening(l, o)
	wantZero(t, fmt.Sprintf("FirstBadOpening of %v and %#v", l, o), ok, n)
}

func wantJoint(t *testing.T, turn int, nonces ...int) {
	t.Helper()
	n, ok := impl.JointSeed(turn, nonces)
	what := fmt.Sprint("JointSeed of ", turn, " and ", nonces)
	list := append([]int{12, turn}, nonces...)
	wantNumber(t, what, n, ok, mixByDefinition(list))
	if mix, ok := impl.MixNumbers(list); !ok || mix != n {
		t.Errorf("%s: %d, but MixNumbers is %d", what, n, mix)
	}
}

func wantNoJoint(t *testing.T, turn int, nonces ...int) {
	t.Helper()
	n, ok := impl.JointSeed(turn, nonces)
	wantZero(t, fmt.Sprint("JointSeed of ", turn, " and ", nonces), ok, n)
}

// wantChain requires the chain of the definition, in which nothing is bad.
func wantChain(t *testing.T, l ...impl.Sealed) {
	t.Helper()
	chain, ok := impl.SealChain(l)
	wantList(t, fmt.Sprint("SealChain of ", l), chain, ok, chainByDefinition(l))
	wantBadSeal(t, l, chain, len(l))
}

// wantBadSeal requires FirstBadSeal to succeed with an index.
func wantBadSeal(t *testing.T, l []impl.Sealed, chain []int, want int) {
	t.Helper()
	n, ok := impl.FirstBadSeal(l, chain)
	wantNumber(t, fmt.Sprint("FirstBadSeal of ", l, " and ", chain), n, ok, want)
}

func wantNoBadSeal(t *testing.T, l []impl.Sealed, chain []int) {
	t.Helper()
	n, ok := impl.FirstBadSeal(l, chain)
	wantZero(t, fmt.Sprint("FirstBadSeal of ", l, " and ", chain), ok, n)
}

// wantNoChain requires SealChain to fail, and FirstBadSeal for lists of all
// lengths.
func wantNoChain(t *testing.T, l ...impl.Sealed) {
	t.Helper()
	chain, ok := impl.SealChain(l)
	wantZero(t, fmt.Sprint("SealChain of ", l), ok, chain)
	wantNoBadSeal(t, l, nil)
	for n := range 7 {
		wantNoBadSeal(t, l, make([]int, n))
	}
	wantNoBadSeal(t, l, chainByDefinition(l))
}

// writtenSeal writes a seal, also one that is not valid, as the document has it.
func writtenSeal(x impl.Sealed) string {
	return fmt.Sprintf("seal %d %d %d", x.Turn, x.Side, x.Seal)
}

// wantSealText requires the text of a seal, which is read back.
func wantSealText(t *testing.T, x impl.Sealed, want string) {
	t.Helper()
	if text, ok := impl.SealedText(x); !ok || text != want {
		t.Errorf("SealedText of %v: %q, %v, want %q", x, text, ok, want)
	}
	if y, ok := impl.ParseSealed(want); !ok || y != x {
		t.Errorf("ParseSealed(%q): %v, %v, want %v", want, y, ok, x)
	}
}

func wantNoSealText(t *testing.T, text string) {
	t.Helper()
	x, ok := impl.ParseSealed(text)
	wantZero(t, fmt.Sprintf("ParseSealed(%.200q)", text), ok, x)
}
