package tests

import (
	"fmt"
	"math/rand"
	"strings"
	"testing"

	"loop.example/g00886/impl"
)

var sealTexts = []struct {
	x    impl.Sealed
	text string
}{
	{seal(0, 0, 0), "seal 0 0 0"},
	{seal(3, 1, 7), "seal 3 1 7"},
	{seal(10, 0, 10), "seal 10 0 10"},
	{seal(0, 1, 2147483648), "seal 0 1 2147483648"},
	{seal(9, 0, 1000000), "seal 9 0 1000000"},
	{seal(30, 1, maxSeed), "seal 30 1 4611686016279904236"},
	{seal(30, 0, maxSeed-1), "seal 30 0 4611686016279904235"},
}

func TestSealTexts(t *testing.T) {
	for _, c := range sealTexts {
		wantSealText(t, c.x, c.text)
	}
	for turn := range maxTurn + 1 {
		for _, number := range someSeeds {
			for side := range 2 {
				x := seal(turn, side, number)
				wantSealText(t, x, writtenSeal(x))
			}
		}
	}
	r := rand.New(rand.NewSource(1441))
	for range 1000 {
		x, _ := drawnSeal(r)
		wantSealText(t, x, writtenSeal(x))
	}
}

func TestTextsOfInvalidSeals(t *testing.T) {
	for _, x := range invalidSeals() {
		text, ok := impl.SealedText(x)
		wantZero(t, fmt.Sprint("SealedText of ", x), ok, text)
		wantNoSealText(t, writtenSeal(x))
	}
}

// These texts are not quite that of a seal.
func TestNoSealTexts(t *testing.T) {
	for _, text := range []string{
		"", " ", "\n", "seal", "seal ", "seal 3", "seal 3 1", "seal 3 1 ", "3 1 7", " 3 1 7", "7", "seal 3 1 7 0", "seal 3 1 7 7 7",
		"Seal 3 1 7", "SEAL 3 1 7", "seals 3 1 7", "sea 3 1 7", "sealed 3 1 7", "side 3 1 7", "seal: 3 1 7", "seal3 1 7", "\"seal\" 3 1 7",
		" seal 3 1 7", "seal  3 1 7", "seal 3  1 7", "seal 3 1  7", "seal 3 1 7 ", "seal\t3 1 7", "seal 3\t1 7", "seal 3 1\u00a07",
		"seal 3 1 7\n", "\nseal 3 1 7", "seal\n3 1 7", "seal 3\n1 7", "seal 3 1\n7", "seal 3 1 7\r", "seal 3 1 7\r\n", "seal 3 1 7\x00", "seal 3 1 7\nseal 3 1 7",
		"seal +3 1 7", "seal 3 +1 7", "seal 3 1 +7", "seal -0 1 7", "seal 3 -0 7", "seal 3 1 -0", "seal -3 1 7", "seal 3 -1 7", "seal 3 1 -7", "seal 3 1 - 7",
		"seal 03 1 7", "seal 3 01 7", "seal 3 1 07", "seal 00 1 7", "seal 3 00 7", "seal 3 1 00", "seal 3 1 0000000000000000007",
		"seal 31 1 7", "seal 300 1 7", "seal -1 1 7", "seal 3 2 7", "seal 3 10 7", "seal 3 -1 7", "seal 3 1 -1", "seal 3 1 4611686016279904237", "seal 3 1 46116860162799042360",
		"seal 3 1 9223372036854775807", "seal 3 1 9223372036854775808", "seal 3 1 18446744073709551616", "seal 3 1 18446744073709551623", "seal 18446744073709551619 1 7", "seal 3 18446744073709551617 7", "seal 4294967299 1 7", "seal 3 4294967297 7",
		"seal 3 1 7.0", "seal 3 1 7e0", "seal 3 1 0x7", "seal 3 1 0b1", "seal 3 1 1_0", "seal 3 1 seven", "seal a 1 7", "seal 3 b 7", "seal 3, 1, 7", "seal 3,1,7", "seal 3 1 ７", "seal 3 1 ٧",
		"7 3 1 seal", "seal 3 seal 7", "# seal 3 1 7",
	} {
		wantNoSealText(t, text)
	}
}

func TestLongSealTexts(t *testing.T) {
	long := strings.Repeat("0", 100000)
	for _, text := range []string{
		"seal 3 1 " + long, "seal 3 1 1" + long, "seal " + long + " 1 7", "seal 3 " + long + " 7", "seal 3 1 7" + strings.Repeat(" ", 100000),
		"seal 3 1 7" + strings.Repeat(" 7", 100000), strings.Repeat("seal ", 100000) + "3 1 7", strings.Repeat("-", 100000), "seal 3 1 " + strings.Repeat("9", 19), "seal 3 1 -" + strings.Repeat("9", 40),
	} {
		wantNoSealText(t, text)
	}
}

// The beginnings and the ends of a text are none, unless digits at its end are
// missing.
func TestPartsOfSealTexts(t *testing.T) {
	for _, c := range sealTexts {
		last := strings.LastIndexByte(c.text, ' ')
		for n := range len(c.text) {
			if n <= last+1 {
				wantNoSealText(t, c.text[:n])
			} else if x, ok := impl.ParseSealed(c.text[:n]); !ok || writtenSeal(x) != c.text[:n] {
				t.Errorf("ParseSealed(%q): %v, %v", c.text[:n], x, ok)
			}
			wantNoSealText(t, c.text[n+1:])
		}
	}
}

// Whatever is read has exactly the text from which it was read.
func TestSealTextsChangedByOneByte(t *testing.T) {
	var texts []string
	for _, c := range sealTexts {
		texts = append(texts, c.text)
	}
	wantExactReader(t, impl.ParseSealed, impl.SealedText, texts, "\x00\t\n\r +-_./0123456789aeslSx\x80\xff")
}

// No bytes make the reader panic.
func FuzzSealReader(f *testing.F) {
	for _, c := range sealTexts {
		f.Add(c.text)
	}
	f.Fuzz(func(t *testing.T, text string) {
		if x, ok := impl.ParseSealed(text); ok && (writtenSeal(x) != text || !impl.IsSealed(x)) {
			t.Errorf("%q is read as %v", text, x)
		}
	})
}
