package tests

import (
	"reflect"
	"strings"
	"testing"

	"loop.example/g00886/impl"
)

func TestLanguageLimits(t *testing.T) {
	if impl.FtSyntax != 1 || impl.FtTwice != 2 || impl.FtRange != 3 || impl.FtMissing != 4 || impl.MaxRuleLines != 40 {
		t.Error(impl.FtSyntax, impl.FtTwice, impl.FtRange, impl.FtMissing, impl.MaxRuleLines)
	}
}

var rulesTexts = []struct {
	rules impl.Rules
	text  string
}{
	{footRules(), "stack 2\nriver 0\nroad 1\nsupply 5\nturns 10\n" +
		"kind foot strength 2 moves 3 steps 1 view 1 zone\nterrain plain shift 0 height 0 cost 1\n"},
	{impl.Rules{
		Terrains: []impl.Terrain{
			{Name: "wood", Cost: []int{0, 9}, Shift: -3, Height: 3, Blocks: true},
			{Name: "a", Cost: []int{9, 0}, Shift: 3},
			{Name: "horse", Cost: []int{2, 1}, Shift: -1, Height: 1, Blocks: true},
		},
		Kinds: []impl.Kind{{Name: "zzzzzzzz", Strength: 9, Moves: 0, Steps: 4, View: 0}, {Name: "horse", Strength: 1, Moves: 9, Steps: 1, Zone: true, View: 4}},
		Stack: 4, River: 9, Road: 9, Supply: 20, Turns: 30,
	}, "stack 4\nriver 9\nroad 9\nsupply 20\nturns 30\n" +
		"kind zzzzzzzz strength 9 moves 0 steps 4 view 0\nkind horse strength 1 moves 9 steps 1 view 4 zone\n" +
		"terrain wood shift -3 height 3 cost 0 9 blocks\nterrain a shift 3 height 0 cost 9 0\nterrain horse shift -1 height 1 cost 2 1 blocks\n"},
	{impl.Rules{
		Terrains: []impl.Terrain{{Name: "terrain", Cost: []int{0, 0}}, {Name: "blocks", Cost: []int{1, 1}, Blocks: true}},
		Kinds:    []impl.Kind{{Name: "kind", Strength: 1, Steps: 1}, {Name: "zone", Strength: 1, Steps: 1, Zone: true}},
		Stack:    1, River: 0, Road: 1, Supply: 0, Turns: 1,
	}, "stack 1\nriver 0\nroad 1\nsupply 0\nturns 1\n" +
		"kind kind strength 1 moves 0 steps 1 view 0\nkind zone strength 1 moves 0 steps 1 view 0 zone\n" +
		"terrain terrain shift 0 height 0 cost 0 0\nterrain blocks shift 0 height 0 cost 1 1 blocks\n"},
}

func TestRulesTexts(t *testing.T) {
	for _, c := range rulesTexts {
		if s := rulesTextOf(t, c.rules); s != c.text {
			t.Errorf("RulesText of %v is %q, want %q", c.rules, s, c.text)
		}
		if r, ok := impl.ParseRules(c.text); !ok || !reflect.DeepEqual(r, c.rules) {
			t.Errorf("ParseRules(%q) = %v, %v", c.text, r, ok)
		}
		wantRules(t, c.text, c.rules)
	}
}

func TestRulesTextsAreReadBack(t *testing.T) {
	for _, r := range someRules() {
		text := rulesTextOf(t, r)
		if want := linesOf(writtenRules(r)...); text != want {
			t.Fatalf("RulesText of %v is %q, want %q", r, text, want)
		}
		if back, ok := impl.ParseRules(text); !ok || !reflect.DeepEqual(back, r) {
			t.Fatalf("the text of %v is read as %v, %v", r, back, ok)
		}
		wantRules(t, text, r)
	}
}

// Each number of rules is written as it is, and read again, everywhere in its
// range.
func TestEachNumberIsReadBack(t *testing.T) {
	for _, x := range ruleNumbers() {
		for n := x.least; n <= x.greatest; n++ {
			r := fullRules()
			*x.at(&r) = n
			if back, ok := impl.ParseRules(rulesTextOf(t, r)); !ok || !reflect.DeepEqual(back, r) {
				t.Fatalf("rules with %s %d are read back as %v, %v", x.name, n, back, ok)
			}
		}
	}
}

func TestTerrainLineAndKindLine(t *testing.T) {
	for _, r := range someRules() {
		lines := writtenRules(r)
		kinds, terrains := lines[5:5+len(r.Kinds)], lines[5+len(r.Kinds):]
		for i, want := range kinds {
			if s, ok := impl.KindLine(r, i); !ok || s != want {
				t.Fatalf("KindLine %d of %v is %q, %v, want %q", i, r, s, ok, want)
			}
		}
		for i, want := range terrains {
			if s, ok := impl.TerrainLine(r, i); !ok || s != want {
				t.Fatalf("TerrainLine %d of %v is %q, %v, want %q", i, r, s, ok, want)
			}
		}
	}
	if s, ok := impl.KindLine(footRules(), 0); !ok || s != "kind foot strength 2 moves 3 steps 1 view 1 zone" {
		t.Errorf("the kind of the document's example has the line %q, %v", s, ok)
	}
	if s, ok := impl.TerrainLine(fullRules(), 1); !ok || s != "terrain wood shift -1 height 0 cost 2 0 0 0 blocks" {
		t.Errorf("wood has the line %q, %v", s, ok)
	}
}

func TestFaultName(t *testing.T) {
	for code, want := range map[int]string{1: "syntax", 2: "twice", 3: "range", 4: "missing", 0: "", 5: "", 6: "", 257: "", 1 << 32: "", 1<<32 + 1: ""} {
		if s := impl.FaultName(code); s != want {
			t.Errorf("FaultName(%d) is %q, want %q", code, s, want)
		}
	}
	for _, code := range outside {
		if s := impl.FaultName(code); s != "" {
			t.Errorf("FaultName(%d) is %q", code, s)
		}
	}
}

func TestBoardTexts(t *testing.T) {
	const want = "stack 2\nriver 0\nroad 1\nsupply 5\nturns 10\nkind foot strength 2 moves 1 steps 3 view 1 zone\n" +
		"terrain plain shift 0 height 0 cost 1\nterrain sea shift 0 height 0 cost 0\nmap 3 1\n010\nrivers\nroads\n"
	if s := boardTextOf(t, exampleBoard()); s != want {
		t.Errorf("BoardText of the example is %q, want %q", s, want)
	}
	if b, ok := impl.ParseBoard(want); !ok || !sameBoard(b, exampleBoard()) {
		t.Errorf("ParseBoard(%q) = %v, %v", want, b, ok)
	}
	for _, b := range variedBoards() {
		text := boardTextOf(t, b)
		if text != rulesTextOf(t, b.Rules)+textOf(t, b.Map) {
			t.Fatalf("BoardText of %v is %q", b, text)
		}
		if back, ok := impl.ParseBoard(text); !ok || !sameBoard(back, b) {
			t.Fatalf("the text of %v is read as %v, %v", b, back, ok)
		}
	}
	for _, r := range someRules() {
		b := impl.Board{Rules: r, Map: plainMap(4, 3)}
		b.Map.Terrain[5] = len(r.Terrains) - 1
		if back, ok := impl.ParseBoard(boardTextOf(t, b)); !ok || !sameBoard(back, b) {
			t.Fatalf("the text of %v is read as %v, %v", b, back, ok)
		}
	}
}

// A map with terrains that the rules do not have is read alone, but not as a
// part of a board.
func TestTextsOfRulesAndMapsApart(t *testing.T) {
	for terrains := 1; terrains <= 6; terrains++ {
		r := fullRules()
		r.Terrains = r.Terrains[:terrains]
		for n := range 6 {
			m := plainMap(2, 2)
			m.Terrain[3] = n
			text := rulesTextOf(t, r) + textOf(t, m)
			if n >= terrains {
				wantNoBoard(t, text)
			} else if b, ok := impl.ParseBoard(text); !ok || !sameBoard(b, impl.Board{Rules: r, Map: m}) {
				t.Errorf("ParseBoard(%q) = %v, %v", text, b, ok)
			}
		}
	}
}

// A kind or terrain with the name map is no map, and the words of a map are
// names.
func TestBoardsWithNamesOfMaps(t *testing.T) {
	for _, name := range []string{"map", "rivers", "roads", "stack", "turns"} {
		b := impl.Board{Rules: footRules(), Map: variedMap(1, 1)}
		b.Rules.Kinds[0].Name, b.Rules.Terrains[0].Name = name, name
		if back, ok := impl.ParseBoard(boardTextOf(t, b)); !ok || !sameBoard(back, b) {
			t.Errorf("a board with the name %s is read back as %v, %v", name, back, ok)
		}
	}
}

// freeChanges are free texts with the rules of rulesTexts[1] that are no text of
// rules: a part is replaced by another one.
var freeChanges = [][2]string{
	// Another order of lines.
	{"stack 4\nriver 9\n", "river 9\nstack 4\n"}, {"supply 20\nturns 30\n", "turns 30\nsupply 20\n"},
	{"turns 30\nkind zzzzzzzz strength 9 moves 0 steps 4 view 0\n", "kind zzzzzzzz strength 9 moves 0 steps 4 view 0\nturns 30\n"},
	{"kind horse strength 1 moves 9 steps 1 view 4 zone\nterrain wood shift -3 height 3 cost 0 9 blocks\n",
		"terrain wood shift -3 height 3 cost 0 9 blocks\nkind horse strength 1 moves 9 steps 1 view 4 zone\n"},
	// Empty lines and comments.
	{"stack", "\nstack"}, {"stack", "#\nstack"}, {"stack", "# rules\nstack"}, {"river", "\nriver"}, {"road", "#road 9\nroad"},
	{"kind horse", "# kinds\n\nkind horse"}, {"terrain wood", "\n\nterrain wood"}, {"cost 2 1 blocks\n", "cost 2 1 blocks\n\n"},
	{"cost 2 1 blocks\n", "cost 2 1 blocks\n#\n"}, {"cost 2 1 blocks\n", "cost 2 1 blocks\n# end\n"},
}

func TestFreeTextsAreNoTexts(t *testing.T) {
	good := rulesTexts[1]
	for _, c := range freeChanges {
		s := strings.Replace(good.text, c[0], c[1], 1)
		if s == good.text {
			t.Fatalf("%q does not change the text", c)
		}
		wantRules(t, s, good.rules)
		wantNoRules(t, s)
		wantNoBoard(t, s+"map 1 1\n0\nrivers\nroads\n")
	}
	// Limits with the usual values may be missing from a free text alone.
	for _, line := range writtenRules(footRules())[:5] {
		s := strings.Replace(rulesTextOf(t, footRules()), line+"\n", "", 1)
		wantRules(t, s, footRules())
		wantNoRules(t, s)
		wantNoBoard(t, s+"map 1 1\n0\nrivers\nroads\n")
	}
}

// faultyChanges give the texts of rulesTexts[1] a fault.
var faultyChanges = [][2]string{
	// Missing and repeated lines.
	{"stack 4\n", "stack 4\nstack 4\n"}, {"kind zzzzzzzz strength 9 moves 0 steps 4 view 0\n", ""},
	{"turns 30\n", "turns 30\nroad 9\n"}, {"kind horse", "kind horse strength 1 moves 9 steps 1 view 4 zone\nkind horse"},
	// Other blanks.
	{"stack 4", " stack 4"}, {"stack 4", "stack 4 "}, {"stack 4", "stack  4"}, {"stack 4", "stack\t4"}, {"stack 4", "stack4"},
	{"stack 4\n", "stack 4\r\n"}, {"stack 4\n", "stack 4 river 9\n"}, {"stack 4\n", "stack 4\n \n"}, {"stack 4\n", "stack 4\n #\n"},
	{"kind zzzzzzzz ", "kind zzzzzzzz  "}, {"kind zzzzzzzz", "kind  zzzzzzzz"}, {"kind zzzzzzzz ", "kind zzzzzzzz\t"},
	{"view 4 zone", "view 4  zone"}, {"view 4 zone", "view 4 zone "}, {"view 4 zone", "view 4zone"}, {"view 4 zone\n", "view 4 \nzone\n"},
	{"view 4 zone\n", "view 4\nzone\n"}, {"cost 0 9", "cost  0 9"}, {"cost 0 9", "cost 0  9"}, {"cost 0 9 blocks", "cost 0 9  blocks"},
	{"cost 0 9 blocks", "cost 0 9 blocks "}, {"cost 0 9", "cost 09"}, {"cost 0 9", "cost 0\t9"}, {"cost 0 9", "cost 0,9"},
	{"cost 9 0\n", "cost 9 0 \n"}, {"view 0\n", "view 0 \n"},
	// Signs and leading zeros.
	{"stack 4", "stack 04"}, {"stack 4", "stack +4"}, {"stack 4", "stack -4"}, {"river 9", "river 9.0"}, {"moves 0", "moves -0"},
	{"moves 0", "moves 00"}, {"moves 0", "moves +0"}, {"shift -3", "shift - 3"}, {"shift -3", "shift --3"}, {"shift -3", "shift -03"},
	{"shift -3", "shift \u22123"}, {"shift 3", "shift +3"}, {"shift 3", "shift 03"}, {"cost 0 9", "cost 0 09"}, {"cost 0 9", "cost -0 9"},
	// Other words.
	{"stack", "Stack"}, {"stack", "stacks"}, {"kind zz", "kinds zz"}, {"kind zz", "terrain zz"}, {"terrain a", "kind a"},
	{"terrain a", "terrains a"}, {"strength 9", "strong 9"}, {"strength 9 moves 0", "moves 0 strength 9"}, {" steps 4", ""},
	{" view 0", ""}, {"view 4 zone", "zone view 4"}, {"view 4 zone", "view 4 zone zone"}, {"view 4 zone", "view 4 blocks"},
	{"view 4 zone", "view 4 Zone"}, {"view 4 zone", "view 4 zone # here"}, {"stack 4", "stack 4 # here"}, {"cost 0 9 blocks", "cost 0 9 zone"},
	{"cost 0 9 blocks", "cost 0 9 blocks blocks"}, {"cost 0 9 blocks", "cost blocks 0 9"}, {"cost 0 9 blocks", "blocks cost 0 9"},
	{"shift -3 height 3", "height 3 shift -3"}, {" height 3", ""}, {" cost 0 9", ""}, {" cost 0 9", " 0 9"}, {"cost 0 9", "costs 0 9"},
	// Missing and additional newlines.
	{"cost 2 1 blocks\n", "cost 2 1 blocks"}, {"stack 4\n", "stack 4"}, {"stack 4\n", "stack\n4\n"}, {"cost 2 1 blocks\n", "cost 2 1 blocks\n "},
	{"cost 2 1 blocks\n", "cost 2 1 blocks\n\x00"}, {"cost 9 0\n", "cost 9 0 "}, {"cost 2 1", "cost 2 1\n"}, {"kind horse", "kind\nhorse"},
	// Bytes before and after the text.
	{"stack 4", "\ufeffstack 4"}, {"cost 2 1 blocks\n", "cost 2 1 blocks\n\x1a"}, {"stack 4", "\x00stack 4"},
}

func TestFaultyTextsAreNoTexts(t *testing.T) {
	good := rulesTexts[1].text
	for _, c := range faultyChanges {
		s := strings.Replace(good, c[0], c[1], 1)
		if s == good {
			t.Fatalf("%q does not change the text", c)
		}
		wantNoRules(t, s)
		wantNoBoard(t, s+"map 1 1\n0\nrivers\nroads\n")
		if _, _, _, ok := impl.ReadRules(s); ok {
			t.Errorf("ReadRules(%q) succeeds", s)
		}
	}
}

func TestTextsThatAreNoRules(t *testing.T) {
	texts := []string{"", "\n", " ", "#\n", "stack 2\n", linesOf(footLine), linesOf(plainLine), linesOf(footLine, plainLine),
		linesOf(writtenRules(sizedRules(7, 1))...), linesOf(writtenRules(sizedRules(1, 5))...), linesOf(writtenRules(sizedRules(0, 1))...),
		linesOf(writtenRules(sizedRules(1, 0))...), linesOf(writtenRules(impl.Rules{})...),
		rulesTexts[0].text + rulesTexts[0].text, rulesTexts[0].text + rulesTexts[1].text, textOf(t, plainMap(1, 1)),
		strings.Repeat("\n", 100000), strings.Repeat(" ", 100000), strings.Repeat("stack 2\n", 100000),
		rulesTexts[0].text + strings.Repeat("\n", 100000), "terrain plain shift 0 height 0 cost" + strings.Repeat(" 1", 100000) + "\n"}
	for _, r := range invalidRules() {
		texts = append(texts, linesOf(writtenRules(r)...))
	}
	// No part of a text with one kind and one terrain suffices.
	one := rulesTexts[0].text
	for n := range len(one) {
		texts = append(texts, one[:n], one[n+1:])
	}
	for _, s := range texts {
		wantNoRules(t, s)
		wantNoBoard(t, s)
	}
	wantNoRules(t, boardTextOf(t, exampleBoard()))
}

func TestOtherTextsOfBoards(t *testing.T) {
	good := boardTextOf(t, exampleBoard())
	changes := [][2]string{
		{"map", "\nmap"}, {"map", "#\nmap"}, {"map", "# a map\nmap"}, {"map", " map"}, {"map", "Map"}, {"map", "maps"}, {"map 3", "map  3"},
		{"map 3 1", "map 03 1"}, {"map 3 1", "map 3 1 "}, {"map 3 1\n", "map 3 1\n\n"}, {"map 3 1\n", "map 3 1"}, {"map 3 1\n", ""},
		{"map 3 1", "map 1 3"}, {"map 3 1", "map"}, {"map 3 1", "map +3 1"}, {"map 3 1", "map 3 -1"}, {"map 3 1\n", "map 3 1\nmap 3 1\n"},
		{"cost 0\nmap", "cost 0map"}, {"cost 0\nmap", "cost 0 map"}, {"010", "020"}, {"010", "012"}, {"010", "01"}, {"010\n", "#\n010\n"},
		{"010\n", "010\n\n"}, {"rivers\nroads", "roads\nrivers"}, {"rivers\n", ""}, {"roads\n", ""}, {"roads\n", "roads"},
		{"roads\n", "roads\n\n"}, {"roads\n", "roads\n#\n"}, {"roads\n", "roads\nstack 2\n"}, {"rivers\n", "rivers 0\n#\n"},
		{"rivers\n", "rivers 00\n"}, {"rivers\n", "rivers +0\n"}, {"rivers\n", "rivers 1\n"}, {"stack 2\n", "stack 2\nmap 3 1\n010\nrivers\nroads\n"},
		{"stack 2\n", ""}, {"stack 2\n", "stack 02\n"}, {"stack 2\nriver 0\n", "river 0\nstack 2\n"}, {"turns 10\n", "turns 10\n\n"},
		{"terrain sea shift 0 height 0 cost 0\n", ""}, {"stack", "\nstack"}, {"stack", "map 3 1\nstack"}, {"stack 2", "map 2"},
	}
	for _, c := range changes {
		s := strings.Replace(good, c[0], c[1], 1)
		if s == good {
			t.Fatalf("%q does not change the text", c)
		}
		wantNoBoard(t, s)
	}
	rules, m := rulesTextOf(t, exampleBoard().Rules), textOf(t, exampleBoard().Map)
	for _, s := range []string{"", m, rules, m + rules, rules + m + m, rules + rules + m, rules + m + rules, "\n" + m, "map 1 1\n", "\nmap 1 1\n",
		"\nmap ", "map ", rules + "map ", rules + "map", rules + "\n" + m, rules[:len(rules)-1] + m, rules + rules} {
		wantNoBoard(t, s)
	}
	for n := range len(good) {
		wantNoBoard(t, good[:n])
		wantNoBoard(t, good[n+1:])
	}
}

// Whatever is read has exactly the text from which it was read.
func TestRulesTextsChangedByOneByte(t *testing.T) {
	var texts []string
	for _, c := range rulesTexts {
		texts = append(texts, c.text)
	}
	wantExactReader(t, impl.ParseRules, impl.RulesText, texts, "\x00\t\n\r +-/0129:#aeikt\xff")
}

func TestBoardTextsChangedByOneByte(t *testing.T) {
	wantExactReader(t, impl.ParseBoard, impl.BoardText, []string{boardTextOf(t, exampleBoard())}, "\x00\t\n\r +-/01239:#aempz\xff")
}
