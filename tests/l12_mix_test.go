package tests

import (
	"fmt"
	"math"
	"math/rand"
	"slices"
	"strings"
	"testing"

	"loop.example/g00886/impl"
)

// wantMix requires the mix of a list to be the one of the definition, whose two
// numbers are residues.
func wantMix(t *testing.T, list []int) {
	t.Helper()
	n, ok := impl.MixNumbers(list)
	wantNumber(t, fmt.Sprint("MixNumbers of ", list), n, ok, mixByDefinition(list))
	if a, b := n>>31, n&(1<<31-1); n < 0 || n > impl.MaxSeed || a > 2147483646 || b > 2147483628 {
		t.Errorf("MixNumbers of %v: %d of the numbers %d and %d", list, n, a, b)
	}
}

func TestLimitsOfDice(t *testing.T) {
	if impl.MaxMixed != 200 || impl.MaxDice != 8 || impl.MaxSeed != 2147483646<<31+2147483628 {
		t.Error(impl.MaxMixed, impl.MaxDice, impl.MaxSeed)
	}
}

// The numbers a and b of these lists have been computed step by step: without
// elements, a is 117651, 1977517383 and 1247863285, and b 157025, 1717611822
// and 223686424.
func TestMixByHand(t *testing.T) {
	for _, x := range []struct {
		list []int
		a, b int
	}{
		{nil, 1247863285, 223686424},
		{[]int{}, 1247863285, 223686424},
		{[]int{0, 0}, 828211029, 1281905879},
		{[]int{7, 3}, 2046581256, 1710567312},
		{[]int{1, 2, 3}, 60370514, 1227236839},
		{[]int{-1}, 101398429, 2046893576},
		{[]int{math.MinInt, math.MaxInt}, 555753646, 653032363},
	} {
		n, ok := impl.MixNumbers(x.list)
		wantNumber(t, fmt.Sprint("MixNumbers of ", x.list), n, ok, x.a*2147483648+x.b)
	}
}

func TestMixOfSizes(t *testing.T) {
	for n := range 201 {
		wantMix(t, make([]int, n))
	}
	for _, n := range []int{201, 202, 400, 1000} {
		mix, ok := impl.MixNumbers(make([]int, n))
		wantZero(t, fmt.Sprint("MixNumbers of ", n, " elements"), ok, mix)
	}
}

func TestMixOfExtremes(t *testing.T) {
	for _, x := range wraps {
		wantMix(t, []int{x})
		wantMix(t, slices.Repeat([]int{x}, 200))
		for _, y := range wraps {
			wantMix(t, []int{x, y})
			wantMix(t, []int{0, x, y, x})
		}
	}
}

func TestMixOfDrawnLists(t *testing.T) {
	r := rand.New(rand.NewSource(1201))
	for range 3000 {
		wantMix(t, drawnNumbers(r, r.Intn(12)))
	}
	for range 100 {
		wantMix(t, drawnNumbers(r, 190+r.Intn(11)))
	}
}

// strangeTexts are strings whose characters have several bytes or whose bytes
// are no characters.
func strangeTexts() []string {
	list := []string{"", "a", "battle", "é", "aé", "éa", "€", "𝄞", "a€b𝄞c", "\ufffd", "\ufffd\xff", "\xef\xbf", "\xef\xbfa", "\xc3", "\xc3a", "a\xc3", "\xc3\xc3\xa9",
		"\xc0\x80", "\xed\xa0\x80", "\xf4\x90\x80\x80", "\xf0\x9d\x84", "\x80\x81\x82", "\xfe\xff", "\x00", "\x00\x00", "\n\t", "zwölf Würfel"}
	for b := range 256 {
		// The characters of these numbers have two bytes from 128 on.
		list = append(list, string([]byte{byte(b)}), string([]byte{'x', byte(b), byte(b)}), string(rune(b)), "x"+string(rune(b))+"y")
	}
	return list
}

func wantTextMix(t *testing.T, s string) {
	t.Helper()
	n, ok := impl.MixText(s)
	wantNumber(t, fmt.Sprintf("MixText of %q", s), n, ok, mixByDefinition(bytesByIndex(s)))
}

func TestMixOfTexts(t *testing.T) {
	for _, s := range strangeTexts() {
		wantTextMix(t, s)
	}
	r := rand.New(rand.NewSource(1202))
	for range 1000 {
		wantTextMix(t, drawnText(r, r.Intn(20)))
	}
	if n, ok := impl.MixText("é"); !ok || n != mixByDefinition([]int{0xc3, 0xa9}) {
		t.Error("the mix is not that of two bytes", n, ok)
	}
}

// The limit is one of bytes, not of characters.
func TestMixOfLongTexts(t *testing.T) {
	r := rand.New(rand.NewSource(1203))
	for _, s := range []string{strings.Repeat("x", 200), strings.Repeat("é", 100), strings.Repeat("𝄞", 50), strings.Repeat("\xff", 200), drawnText(r, 200), drawnText(r, 199)} {
		wantTextMix(t, s)
	}
	for _, s := range []string{strings.Repeat("x", 201), strings.Repeat("é", 100) + "x", strings.Repeat("é", 101), strings.Repeat("𝄞", 200), strings.Repeat("\xff", 201), drawnText(r, 201), drawnText(r, 5000)} {
		n, ok := impl.MixText(s)
		wantZero(t, fmt.Sprintf("MixText of %q", s), ok, n)
	}
}

func wantChild(t *testing.T, seed int, label string) {
	t.Helper()
	n, ok := impl.ChildSeed(seed, label)
	want := bytesByIndex(label, seed)
	wantNumber(t, fmt.Sprintf("ChildSeed of %d and %q", seed, label), n, ok, mixByDefinition(want))
	if mix, ok := impl.MixNumbers(want); !ok || mix != n {
		t.Errorf("ChildSeed of %d and %q: %d, but MixNumbers is %d", seed, label, n, mix)
	}
}

func TestChildSeeds(t *testing.T) {
	for _, seed := range someSeeds {
		for _, label := range strangeTexts() {
			wantChild(t, seed, label)
		}
	}
	r := rand.New(rand.NewSource(1204))
	for range 500 {
		wantChild(t, drawnSeed(r), drawnText(r, r.Intn(41)))
	}
	// A seed without a label is not the seed itself.
	if n, ok := impl.ChildSeed(7, ""); !ok || n == 7 {
		t.Error(n, ok)
	}
}

// The limit of labels is one of bytes as well.
func TestLongLabels(t *testing.T) {
	r := rand.New(rand.NewSource(1205))
	for _, seed := range someSeeds {
		for _, label := range []string{strings.Repeat("y", 40), strings.Repeat("é", 20), strings.Repeat("𝄞", 10), strings.Repeat("\x80", 40), drawnText(r, 40), drawnText(r, 39)} {
			wantChild(t, seed, label)
		}
		for _, label := range []string{strings.Repeat("y", 41), strings.Repeat("é", 20) + "y", strings.Repeat("é", 40), strings.Repeat("𝄞", 40), strings.Repeat("\x80", 41), drawnText(r, 41), drawnText(r, 300)} {
			n, ok := impl.ChildSeed(seed, label)
			wantZero(t, fmt.Sprintf("ChildSeed of %d and %q", seed, label), ok, n)
		}
	}
}
