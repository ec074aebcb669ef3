package tests

import (
	"fmt"
	"slices"
	"strings"
	"testing"

	"loop.example/g00886/impl"
)

func wantNoState(t *testing.T, b impl.Board, text string) {
	t.Helper()
	s, ok := impl.ParseState(b, text)
	wantZero(t, fmt.Sprintf("ParseState(%q)", text), ok, s)
}

// wordBoard returns a board whose kinds have the words of a state as names.
func wordBoard() impl.Board {
	r := fullRules()
	r.Kinds[0].Name, r.Kinds[1].Name, r.Kinds[2].Name, r.Kinds[3].Name = "turn", "weather", "n", "zzzzzzzz"
	r.Turns = 30
	return impl.Board{Rules: r, Map: plainMap(10, 10)}
}

var stateTexts = []struct {
	board impl.Board
	state impl.State
	text  string
}{
	{campBoard(), campState(), campText},
	{campBoard(), stateOf(), "turn 0 weather 0\n"},
	{campBoard(), stateOf(unit(0, 0, 4, 2)), "turn 0 weather 0\n0 foot 4 2\n"},
	{campBoard(), impl.State{Turn: 10, Weather: 2, Units: []impl.Unit{unit(1, 2, -1, 0), unit(1, 2, -1, 0)}}, "turn 10 weather 2\n1 post - 0\n1 post - 0\n"},
	{wordBoard(), impl.State{Turn: 30, Weather: 1, Units: []impl.Unit{unit(0, 0, 99, 4), unit(1, 1, 10, 2), unit(0, 2, -1, 1), unit(1, 3, -1, 3)}},
		"turn 30 weather 1\n0 turn 99 4\n1 weather 10 2\n0 n - 1\n1 zzzzzzzz - 3\n"},
}

func TestStateTexts(t *testing.T) {
	for _, c := range stateTexts {
		if text, ok := impl.StateText(c.board, c.state); !ok || text != c.text {
			t.Errorf("StateText of %v: %q, %v, want %q", c.state, text, ok, c.text)
		}
		s, ok := impl.ParseState(c.board, c.text)
		wantChanged(t, fmt.Sprintf("ParseState(%q)", c.text), c.board, s, ok, c.state)
	}
}

// The document's example: a unit of side 0 in the hex 3 with two steps.
func TestStateTextExample(t *testing.T) {
	b := campBoard()
	b.Map.Terrain[3] = 0
	s := impl.State{Units: []impl.Unit{unit(0, 0, 3, 2)}}
	const want = "turn 0 weather 0\n0 foot 3 2\n"
	if text, ok := impl.StateText(b, s); !ok || text != want {
		t.Errorf("StateText: %q, %v, want %q", text, ok, want)
	}
	read, ok := impl.ParseState(b, want)
	wantChanged(t, "ParseState of the example", b, read, ok, s)
}

func TestStateTextsAreReadBack(t *testing.T) {
	for _, p := range positions() {
		text, ok := impl.StateText(p.board, p.state)
		if want := writtenState(p.board, p.state); !ok || text != want {
			t.Errorf("StateText of %v: %q, %v, want %q", p.state, text, ok, want)
		}
		back, ok := impl.ParseState(p.board, text)
		wantChanged(t, fmt.Sprintf("ParseState(%q)", text), p.board, back, ok, p.state)
	}
}

// Each number of a state is written and read again everywhere in its range.
func TestEachNumberOfStatesIsReadBack(t *testing.T) {
	b := wordBoard()
	var list []impl.State
	for turn := range 31 {
		for weather := range 3 {
			list = append(list, impl.State{Turn: turn, Weather: weather})
		}
	}
	for side := range 2 {
		for at := -1; at < 100; at++ {
			for steps := 1; steps <= 4; steps++ {
				list = append(list, stateOf(unit(side, 0, at, steps)))
			}
		}
	}
	for n := range 13 {
		list = append(list, stateOf(slices.Repeat([]impl.Unit{unit(1, 1, -1, 0)}, n)...))
	}
	for _, s := range list {
		text, ok := impl.StateText(b, s)
		if want := writtenState(b, s); !ok || text != want {
			t.Errorf("StateText of %v: %q, %v, want %q", s, text, ok, want)
		}
		back, ok := impl.ParseState(b, text)
		wantChanged(t, fmt.Sprintf("ParseState(%q)", text), b, back, ok, s)
	}
}

// The changes of campText are no StateText: a part is replaced by another one.
var otherStates = map[string][]string{
	// Other first lines.
	"turn 4 weather 1\n": {"", "\n", "turn 4\n", "weather 1\n", "weather 1 turn 4\n", "turn 4 weather 1", "turn 4 weather 1 \n", " turn 4 weather 1\n",
		"turn 4 weather 1\n\n", "turn 4 weather 1\r\n", "turn 4\nweather 1\n", "turn 4 weather 1\nturn 4 weather 1\n", "turn 4 weather 1 2\n",
		"turn 4 1\n", "4 weather 1\n", "4 1\n", "turn weather\n", "turn 4 weather\n", "turn weather 1\n", "turn 4 weather 1\n#\n", "#\nturn 4 weather 1\n",
		"\nturn 4 weather 1\n", "\ufeffturn 4 weather 1\n", "turn N weather N\n", "turn 4 weather 1\x00\n", "turn 4 weather 1 units 9\n"},
	"turn": {"Turn", "turns", "tur", "", " turn", "\tturn"}, "turn ": {"turn  ", "turn\t", "turn"},
	"weather": {"Weather", "weathers", "", "wether"}, " weather": {"  weather", "\tweather", "weather"}, "weather ": {"weather  ", "weather\t", "weather"},
	"turn 4": {"turn 04", "turn +4", "turn -4", "turn -0", "turn 00", "turn 11", "turn 4.0", "turn four", "turn 0x4", "turn 1_0", "turn -1", "turn -",
		"turn 1000000", "turn 999999", "turn 18446744073709551620", "turn 4294967300", "turn \u0664", "turn 4,"},
	"weather 1": {"weather 01", "weather +1", "weather -1", "weather 3", "weather -0", "weather 1.0", "weather mud", "weather -", "weather 18446744073709551617",
		"weather 4294967297", "weather \u0661"},
	// Other lines of units.
	"0 foot 0 4\n": {"\n", "0\n", "0 foot\n", "0 foot 0\n", "foot 0 4\n", "0 0 4\n", "0 foot 4\n", "0 foot 0 4", "0 foot 0 4 \n", " 0 foot 0 4\n",
		"0 foot 0 4 1\n", "0 foot 0 4\n\n", "\n0 foot 0 4\n", "0 foot 0 4\r\n", "0  foot 0 4\n", "0 foot  0 4\n", "0 foot 0  4\n", "0\tfoot 0 4\n",
		"0 foot\t0 4\n", "0 foot 0\t4\n", "0foot 0 4\n", "0 foot0 4\n", "0 foot 04\n", "foot 0 0 4\n", "0 0 foot 4\n", "0 foot 0 4 foot\n",
		"0 foot 0\n4\n", "0 foot\n0 4\n", "# 0 foot 0 4\n", "0 foot 0 4 # here\n", "0, foot, 0, 4\n", "unit 0 foot 0 4\n", "0 foot 0 4\x00\n", "0 foot 0 0 4\n"},
	"0 foot 0 4": {"00 foot 0 4", "+0 foot 0 4", "-0 foot 0 4", "-1 foot 0 4", "2 foot 0 4", "- foot 0 4", "a foot 0 4", " foot 0 4",
		"0 Foot 0 4", "0 foo 0 4", "0 foots 0 4", "0 plain 0 4", "0 none 0 4", "0 NAME 0 4", "0  0 4", "0 0 0 4", "0 - 0 4", "0 f\u00f6ot 0 4",
		"0 foot 00 4", "0 foot +0 4", "0 foot -0 4", "0 foot -1 4", "0 foot -2 4", "0 foot -- 4", "0 foot -  4", "0 foot \u2212 4", "0 foot _ 4", "0 foot 8 4",
		"0 foot 100 4", "0 foot 999999 4", "0 foot 1000000 4", "0 foot 18446744073709551616 4", "0 foot 4294967296 4", "0 foot x 4",
		"0 foot 0 04", "0 foot 0 +4", "0 foot 0 -4", "0 foot 0 5", "0 foot 0 -1", "0 foot 0 0", "0 foot 0 -0", "0 foot 0 -", "0 foot 0 4.0",
		"0 foot 0 18446744073709551620", "0 foot 0 4294967300", "0 foot 0 \u0664", "0 foot 3 4", "0 foot 5 4", "0 foot 2 4", "1 foot 0 4", "1 foot 4 4"},
	"0 foot - 2": {"0 foot -1 2", "0 foot - 02", "0 foot - -2", "0 foot - -1", "0 foot - 5", "0 foot -2", "0 foot-2", "0 foot 2", "0 foot  2", "0 foot - - 2",
		"0 foot - 2 -", "0 foot 0 2", "0 foot 2 2", "0 foot off 2", "0 foot -  2", "2 foot - 2", "-1 foot - 2", "0 walk - 2", "0 - - 2", "0 foot -0 2"},
	"1 boat 3 2": {"1 boat 3 3", "1 boat 0 2", "1 boat 5 2", "1 boat 6 2", "0 boat 6 0", "1 boats 3 2"},
	"1 post - 1": {"1 post 0 1", "1 post 5 1", "1 post - 2", "1 post -1 1"}, "1 foot - 0": {"1 foot 7 0", "1 foot -1 0", "1 foot - -0", "1 foot - 00"},
	// The end.
	"0 boat 6 1\n": {"0 boat 6 1", "0 boat 6 1 ", "0 boat 6 1\n\n", "0 boat 6 1\n ", "0 boat 6 1\n \n", "0 boat 6 1\r\n", "0 boat 6 1\n#\n", "0 boat 6 1\n\x00",
		"0 boat 6 1\nturn 4 weather 1\n", "0 boat 6 1\n0", "\n", " ", "0 boat 6 1\n0 boat - 0\n0 boat - 0\n0 boat - 0\n0 boat - 0\n",
		"0 boat 6 1\n0 boat 6 1\n0 boat 6 1\n"},
}

func TestOtherTextsOfStates(t *testing.T) {
	b := campBoard()
	for part, others := range otherStates {
		for _, other := range others {
			text := strings.Replace(campText, part, other, 1)
			if text == campText {
				t.Fatalf("%q for %q does not change the text", other, part)
			}
			wantNoState(t, b, text)
		}
	}
}

func TestTextsThatAreNoStates(t *testing.T) {
	b := campBoard()
	for _, text := range []string{"", " ", "\n", "\n\n", "-", "turn", "turn 0 weather 0", "turn 0 weather 0 ", "0 foot 0 4\n", campText + campText, "\n" + campText,
		" " + campText, campText + "\n", campText + " ", "turn 0 weather 0\n\n", "turn 0 weather 0\n \n", "turn  weather \n",
		boardTextOf(t, b), rulesTextOf(t, b.Rules), boardTextOf(t, b) + campText, strings.Repeat("\n", 100000), strings.Repeat(" ", 100000),
		"turn 0 weather 0\n" + strings.Repeat("0 foot - 1\n", 13), "turn 0 weather 0\n" + strings.Repeat("0 foot - 1\n", 50000),
		"turn " + strings.Repeat("9", 100000) + " weather 0\n", "turn 0 weather 0\n0 foot - 1" + strings.Repeat(" 1", 100000) + "\n",
		"turn 0 weather 0\n0 " + strings.Repeat("a", 100000) + " - 1\n"} {
		wantNoState(t, b, text)
	}
	for n := range len(campText) {
		if n == 0 || campText[n-1] != '\n' {
			wantNoState(t, b, campText[:n])
			wantNoState(t, b, campText[n+1:])
		}
	}
	// The first lines are a text alone.
	lines := strings.SplitAfter(campText, "\n")
	for n := 1; n <= 10; n++ {
		want := campState()
		want.Units = want.Units[:n-1]
		s, ok := impl.ParseState(b, strings.Join(lines[:n], ""))
		wantChanged(t, fmt.Sprint("the first ", n, " lines"), b, s, ok, want)
		wantNoState(t, b, strings.Join(lines[n:], ""))
	}
}

// What is written of a state that is not valid for the board is no text.
func TestWrittenInvalidStates(t *testing.T) {
	for _, s := range invalidStates() {
		wantNoState(t, campBoard(), writtenState(campBoard(), s))
	}
}

// A text of one board is that of another one exactly if the state is valid for
// it; both have kinds with the same names.
func TestTextsOnOtherBoards(t *testing.T) {
	list := positions()[6:]
	counts := map[bool]int{}
	for n, p := range list {
		for k := 1; k <= 20; k++ {
			other := list[(n+k)%len(list)].board
			text, _ := impl.StateText(p.board, p.state)
			want := validBySearch(other, p.state)
			counts[want]++
			if s, ok := impl.ParseState(other, text); ok != want || ok && !sameState(s, p.state) {
				t.Errorf("ParseState(%q) on %v: %v, %v, want %v", text, other, s, ok, want)
			}
		}
	}
	if counts[true] < 100 || counts[false] < 100 {
		t.Errorf("valid and invalid states: %v", counts)
	}
}

// The names of kinds, not their order, are in a text.
func TestTextsWithKindsInAnotherOrder(t *testing.T) {
	b := campBoard()
	b.Rules.Kinds[0], b.Rules.Kinds[1] = b.Rules.Kinds[1], b.Rules.Kinds[0]
	for i, x := range b.Rules.Terrains {
		b.Rules.Terrains[i].Cost = []int{x.Cost[1], x.Cost[0], x.Cost[2]}
	}
	want := campState()
	for n, u := range want.Units {
		want.Units[n].Kind = []int{1, 0, 2}[u.Kind]
	}
	s, ok := impl.ParseState(b, campText)
	wantChanged(t, "ParseState with kinds in another order", b, s, ok, want)
}

// Whatever is read has exactly the text from which it was read.
func TestStateTextsChangedByOneByte(t *testing.T) {
	for _, c := range stateTexts {
		read := func(text string) (impl.State, bool) { return impl.ParseState(c.board, text) }
		textOf := func(s impl.State) (string, bool) { return impl.StateText(c.board, s) }
		wantExactReader(t, read, textOf, []string{c.text}, "\x00\t\n\r +-/0123459:#aefnost\x80\xff")
	}
}

// No bytes make the reader panic.
func FuzzStateReader(f *testing.F) {
	for _, c := range stateTexts {
		f.Add(c.text)
	}
	f.Add("turn 0 weather 0\n0 foot -1 2\n")
	b := campBoard()
	f.Fuzz(func(t *testing.T, text string) {
		if s, ok := impl.ParseState(b, text); ok && (writtenState(b, s) != text || !validBySearch(b, s)) {
			t.Errorf("%q is read as %v", text, s)
		}
	})
}
