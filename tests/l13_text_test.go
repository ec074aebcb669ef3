package tests

import (
	"fmt"
	"math/rand"
	"slices"
	"strings"
	"testing"

	"loop.example/g00886/impl"
)

// parish returns a position in which side 0 has the units 0, 3 and 10 on the map,
// and side 1 the unit 1 in the last hex, which has two digits.
func parish() position {
	p := position{frontBoard(10, make([]int, 100)...), parade().state}.moving(9)
	for range 5 {
		p.state.Units = append(p.state.Units, unit(1, scout, -1, 1))
	}
	p.state.Units = append(p.state.Units, unit(0, scout, 44, 1))
	p.state.Units[1].At = 99
	return p
}

var sheetTexts = []struct {
	x    impl.Sheet
	text string
}{
	{sheet(0), "side 0\n"},
	{sheet(1), "side 1\n"},
	{sheet(0, order(3, -1, 0, 0, 5)), "side 0\n3 005 -\n"},
	{sheet(0, order(0, -1)), "side 0\n0 - -\n"},
	{sheet(0, order(0, 10)), "side 0\n0 - 10\n"},
	{sheet(0, order(3, 0)), "side 0\n3 - 0\n"},
	{sheet(0, order(10, 34, 0, 1, 2, 3, 4, 5)), "side 0\n10 012345 34\n"},
	{sheet(0, order(10, -1, 5, 5, 5, 5, 5, 0, 0, 0, 0)), "side 0\n10 555550000 -\n"},
	{sheet(1, order(1, 98)), "side 1\n1 - 98\n"},
	{sheet(1, order(1, 99, 2)), "side 1\n1 2 99\n"},
	{sheet(0, order(0, 1, 5), order(3, -1), order(10, 43, 0, 3)), "side 0\n0 5 1\n3 - -\n10 03 43\n"},
}

func TestSheetTexts(t *testing.T) {
	for _, c := range sheetTexts {
		wantText(t, parish(), c.x, c.text)
	}
}

// The example of the document moves unit 3 by three steps.
func TestSheetTextExample(t *testing.T) {
	p := position{frontBoard(4, make([]int, 8)...), stateOf(slices.Repeat([]impl.Unit{unit(0, guard, 0, 1)}, 4)...)}
	p.state.Units[3].At = 4
	wantText(t, p, sheet(0, order(3, -1, 0, 0, 1)), "side 0\n3 001 -\n")
}

// Twelve orders, which all have a line.
func TestTextOfAllUnits(t *testing.T) {
	want := "side 0\n"
	for u := range 12 {
		want += fmt.Sprint(u, " - -\n")
	}
	wantText(t, army(12), sheet(0, staying(firstUnits(12)...)...), want)
	wantNoText(t, army(12), want+"12 - -\n")
	wantNoText(t, army(12), want+"11 - -\n")
}

func wantNoText(t *testing.T, p position, text string) {
	t.Helper()
	x, ok := p.read(text)
	wantZero(t, fmt.Sprintf("ParseSheet(%q)", text), ok, x)
}

// Other spellings of "side 0\n0 5 1\n3 - -\n10 03 43\n".
var otherSheets = map[string][]string{
	"no text":         {"", "\n", " ", "side", "side\n", "side \n", "0\n", "- -\n", "0 5 1\n"},
	"a last newline":  {"side 0", "side 0\n0 5 1\n3 - -\n10 03 43", "side 0\n0 5 1\n3 - -\n10 03 43\n\n", "side 0\n\n", "side 0\n0 5 1\n3 - -\n10 03 43\n ", "side 0\n0 5 1\n3 - -\n10 03 43\r\n"},
	"empty lines":     {"\nside 0\n0 5 1\n", "side 0\n\n0 5 1\n", "side 0\n0 5 1\n\n3 - -\n", "side 0\n0 5 1\n \n3 - -\n"},
	"blanks":          {" side 0\n", "side 0 \n", "side  0\n", "side 0\n 0 5 1\n", "side 0\n0 5 1 \n", "side 0\n0  5 1\n", "side 0\n0 5  1\n", "side 0\n0\t5 1\n", "side\t0\n", "side 0\n0 5 1\v\n"},
	"words":           {"side 0 0\n", "side 0 -\n", "side 0\n0\n", "side 0\n0 5\n", "side 0\n0 5 1 1\n", "side 0\n0 5 1 -\n", "side 0 0 5 1\n", "side 0\n- 5 1\n", "side -\n", "side 0\n0 0 5 1\n"},
	"names":           {"Side 0\n", "SIDE 0\n", "sides 0\n", "sid 0\n", "seite 0\n", "turn 0\n", "side 0\n0 NAME 1\n", "NAME 0\n", "side N\n", "side 0\nN 5 1\n", "side 0\n0 5 HEX\n"},
	"numbers":         {"side 00\n", "side +0\n", "side -0\n", "side 0.0\n", "side 0x0\n", "side 0\n00 5 1\n", "side 0\n+0 5 1\n", "side 0\n-0 5 1\n", "side 0\n0 5 01\n", "side 0\n0 5 +1\n", "side 0\n0 5 1.\n", "side 0\n0 5 1_0\n"},
	"no attack":       {"side 0\n0 5 -1\n", "side 0\n0 5 --\n", "side 0\n0 5 none\n", "side 0\n0 5 -0\n", "side 0\n0 5\n", "side 0\n0 5 \n", "side 0\n0 5 -01\n", "side 0\n0 5 - \n"},
	"no steps":        {"side 0\n0  1\n", "side 0\n0 1\n", "side 0\n0 -- 1\n", "side 0\n0 -1 1\n", "side 0\n0 none 1\n", "side 0\n0 -- -\n"},
	"no directions":   {"side 0\n0 6 -\n", "side 0\n0 7 -\n", "side 0\n0 9 -\n", "side 0\n0 a -\n", "side 0\n0 05/ -\n", "side 0\n0 0: -\n", "side 0\n0 0- -\n", "side 0\n0 -0 -\n", "side 0\n0 0,5 -\n", "side 0\n0 5\x00 -\n", "side 0\n0 \xb5 -\n", "side 0\n0 \u0665 -\n", "side 0\n0 \uff15 -\n"},
	"too many steps":  {"side 0\n0 0303030303 -\n", "side 0\n0 00000000000 -\n"},
	"no units":        {"side 0\n-1 - -\n", "side 0\n11 - -\n", "side 0\n12 - -\n", "side 0\n2 - -\n", "side 0\n1 - -\n", "side 1\n0 - -\n", "side 0\n1000000 - -\n", "side 0\n18446744073709551616 - -\n"},
	"no sides":        {"side 2\n", "side -1\n", "side 3\n", "side 10\n", "side 256\n", "side 2\n0 - -\n", "side 18446744073709551616\n"},
	"no hexes":        {"side 0\n0 5 100\n", "side 0\n0 5 -2\n", "side 0\n0 5 12\n", "side 0\n0 5 10\n", "side 0\n0 5 1000000\n", "side 0\n0 5 18446744073709551617\n"},
	"lines by number": {"side 0\n3 - -\n0 5 1\n", "side 0\n0 5 1\n0 5 1\n", "side 0\n0 5 1\n10 03 43\n3 - -\n", "side 0\n10 - -\n3 - -\n", "0 5 1\nside 0\n", "side 0\nside 0\n", "side 0\n0 5 1\nside 0\n"},
	"far too dear":    {"side 0\n0 0000000000 -\n", "side 0\n0 2 -\n", "side 0\n0 3 -\n"},
}

func TestOtherTextsOfSheets(t *testing.T) {
	for _, text := range []string{"side 0\n0 5 1\n3 - -\n10 03 43\n", "side 0\n0 5 1\n", "side 0\n3 - -\n", "side 1\n1 - -\n"} {
		if x, ok := parish().read(text); !ok || writtenSheet(x) != text {
			t.Errorf("ParseSheet(%q): %v, %v", text, x, ok)
		}
	}
	for what, texts := range otherSheets {
		for _, text := range texts {
			if x, ok := parish().read(text); ok {
				t.Errorf("%s: ParseSheet(%q) succeeds: %v", what, text, x)
			}
			wantNoText(t, parish(), text)
		}
	}
	for _, text := range []string{strings.Repeat("\n", 10000), strings.Repeat("0 - -\n", 10000), "side 0\n" + strings.Repeat("0 - -\n", 10000),
		"side 0\n0 " + strings.Repeat("0", 100000) + " -\n", "side 0\n0 - " + strings.Repeat("1", 100000) + "\n", "side " + strings.Repeat("0", 100000) + "\n"} {
		wantNoText(t, parish(), text)
	}
}

// The first lines of a text are a text alone; the others, and parts of a line,
// are none.
func TestPartsOfSheetTexts(t *testing.T) {
	p, text := parish(), "side 0\n0 5 1\n3 - -\n10 03 43\n"
	for n := range len(text) {
		if n == 0 || text[n-1] != '\n' {
			wantNoText(t, p, text[:n])
			wantNoText(t, p, text[n+1:])
		}
	}
	lines, whole := strings.SplitAfter(text, "\n"), sheetTexts[len(sheetTexts)-1].x
	for n := 1; n <= 4; n++ {
		wantText(t, p, sheet(0, whole.Orders[:n-1]...), strings.Join(lines[:n], ""))
		wantNoText(t, p, strings.Join(lines[n:], ""))
	}
}

// A text is read where its sheet is valid, and nowhere else.
func TestSheetTextsOfOtherPositions(t *testing.T) {
	p := parish()
	for _, c := range sheetTexts {
		if len(c.x.Orders) == 0 {
			wantText(t, parade(), c.x, c.text)
			continue
		}
		off := copyState(p.state)
		for u := range off.Units {
			off.Units[u].At = -1
		}
		wantNoText(t, position{p.board, off}, c.text)
		swapped, _ := impl.SwapSides(p.board, p.state)
		wantNoText(t, position{p.board, swapped}, c.text)
		other := copySheet(c.x)
		other.Side = 1 - c.x.Side
		wantText(t, position{p.board, swapped}, other, fmt.Sprint("side ", other.Side)+c.text[6:])
	}
	wantNoText(t, p.moving(2), "side 0\n3 005 -\n")
	wantNoText(t, p.in(1).moving(5), "side 0\n3 005 -\n")
	wantText(t, p.moving(3), sheet(0, order(3, -1, 0, 0, 5)), "side 0\n3 005 -\n")
	wantText(t, p.in(1).moving(6), sheet(0, order(3, -1, 0, 0, 5)), "side 0\n3 005 -\n")
}

// What is written of an invalid sheet is no text.
func TestTextsOfDrawnSheets(t *testing.T) {
	random := rand.New(rand.NewSource(136))
	lines := 0
	for _, w := range offices() {
		x := drawnSheet(random, w, random.Intn(2))
		lines += len(x.Orders)
		wantText(t, w.position, x, writtenSheet(x))
		y := copySheet(x)
		y.Orders = append(y.Orders, anyOrder(random, w))
		if !w.isSheetBySearch(y) {
			wantNoText(t, w.position, writtenSheet(y))
		}
		y = copySheet(x)
		slices.Reverse(y.Orders)
		if len(y.Orders) > 1 {
			wantNoText(t, w.position, writtenSheet(y))
		}
	}
	if lines < 300 {
		t.Errorf("only %d orders are written", lines)
	}
}

// Whatever is read has exactly the text from which it was read.
func TestSheetTextsChangedByOneByte(t *testing.T) {
	var texts []string
	for _, c := range sheetTexts {
		texts = append(texts, c.text)
	}
	p := parish()
	wantExactReader(t, p.read, p.text, texts, "\x00\t\n\r +-/01234569:adeisNX\x80\xff")
}

// No bytes make the reader panic.
func FuzzSheetReader(f *testing.F) {
	for _, c := range sheetTexts {
		f.Add(c.text)
	}
	w := officeOf(parish())
	f.Fuzz(func(t *testing.T, text string) {
		if x, ok := w.read(text); ok && (writtenSheet(x) != text || !w.isSheetBySearch(x)) {
			t.Errorf("%q is read as %v", text, x)
		}
	})
}
