package tests

import (
	"fmt"
	"reflect"
	"slices"
	"testing"

	"loop.example/g00886/impl"
)

// wantNoLine requires the lines of a terrain and of a kind with an index not to
// be found.
func wantNoLine(t *testing.T, r impl.Rules, i int) {
	t.Helper()
	s, ok := impl.TerrainLine(r, i)
	wantZero(t, fmt.Sprint("TerrainLine ", i, " of ", r), ok, s)
	s, ok = impl.KindLine(r, i)
	wantZero(t, fmt.Sprint("KindLine ", i, " of ", r), ok, s)
}

func TestTextsOfInvalidRules(t *testing.T) {
	for _, r := range invalidRules() {
		s, ok := impl.RulesText(r)
		wantZero(t, fmt.Sprint("RulesText of ", r), ok, s)
		for i := -1; i <= 7; i++ {
			wantNoLine(t, r, i)
		}
	}
}

func TestTextsOfInvalidBoards(t *testing.T) {
	for _, b := range invalidBoards() {
		s, ok := impl.BoardText(b)
		wantZero(t, fmt.Sprint("BoardText of ", b), ok, s)
	}
}

func TestInvalidIndicesOfLines(t *testing.T) {
	for _, r := range someRules() {
		for _, i := range append([]int{6, 7, len(r.Terrains) + len(r.Kinds)}, outside...) {
			wantNoLine(t, r, i)
		}
		s, ok := impl.TerrainLine(r, len(r.Terrains))
		wantZero(t, fmt.Sprint("TerrainLine behind the last terrain of ", r), ok, s)
		s, ok = impl.KindLine(r, len(r.Kinds))
		wantZero(t, fmt.Sprint("KindLine behind the last kind of ", r), ok, s)
	}
}

// callAllOnLanguage calls every function of the chapter with a board, and
// overwrites and extends the results.
func callAllOnLanguage(b impl.Board) {
	for i := -1; i <= 6; i++ {
		impl.TerrainLine(b.Rules, i)
		impl.KindLine(b.Rules, i)
	}
	rules, _ := impl.RulesText(b.Rules)
	board, _ := impl.BoardText(b)
	for _, s := range []string{rules, board, rules + "fly\n"} {
		parsed, _ := impl.ParseRules(s)
		overwriteBoard(impl.Board{Rules: parsed})
		read, _, _, _ := impl.ReadRules(s)
		overwriteBoard(impl.Board{Rules: read})
		at, codes, _ := impl.RuleFaults(s)
		overwrite(at)
		overwrite(codes)
		whole, _ := impl.ParseBoard(s)
		overwriteBoard(whole)
	}
}

func TestWrittenBoardsAreNotChanged(t *testing.T) {
	boards := append(append(variedBoards(), exampleBoard()), invalidBoards()...)
	for _, r := range someRules() {
		boards = append(boards, impl.Board{Rules: r, Map: plainMap(2, 1)})
	}
	for _, b := range boards {
		given := boardWithSpare(b)
		kept := wholeOf(given)
		callAllOnLanguage(given)
		if now := wholeOf(given); now != kept {
			t.Fatalf("%s is changed to %s", kept, now)
		}
	}
}

// What lies behind the slices of rules and boards plays no part in a text.
func TestSpareCapacityIsNotWritten(t *testing.T) {
	for _, b := range append(variedBoards(), exampleBoard()) {
		given := boardWithSpare(b)
		if rulesTextOf(t, given.Rules) != rulesTextOf(t, b.Rules) || boardTextOf(t, given) != boardTextOf(t, b) {
			t.Fatalf("%v with spare capacity has another text", b)
		}
		s, ok := impl.TerrainLine(given.Rules, len(b.Rules.Terrains))
		wantZero(t, "TerrainLine of a spare terrain", ok, s)
		s, ok = impl.KindLine(given.Rules, len(b.Rules.Kinds))
		wantZero(t, "KindLine of a spare kind", ok, s)
		for i := range b.Rules.Terrains {
			line, _ := impl.TerrainLine(b.Rules, i)
			if s, ok := impl.TerrainLine(given.Rules, i); !ok || s != line {
				t.Fatalf("TerrainLine %d with spare capacity is %q, %v, want %q", i, s, ok, line)
			}
		}
	}
}

// ruleReaders are the functions that read rules from a text of a board's rules or
// of the board.
func ruleReaders(b impl.Board) map[string]func() impl.Board {
	rules, _ := impl.RulesText(b.Rules)
	board, _ := impl.BoardText(b)
	return map[string]func() impl.Board{
		"ParseRules": func() impl.Board {
			r, _ := impl.ParseRules(rules)
			return impl.Board{Rules: r, Map: copyMap(b.Map)}
		},
		"ReadRules": func() impl.Board {
			r, _, _, _ := impl.ReadRules(rules)
			return impl.Board{Rules: r, Map: copyMap(b.Map)}
		},
		"ParseBoard": func() impl.Board {
			x, _ := impl.ParseBoard(board)
			return x
		},
	}
}

// What is read stays as it is when another result of the same call is
// overwritten and extended.
func TestReadBoardsAreNew(t *testing.T) {
	for _, b := range append(variedBoards(), exampleBoard()) {
		for name, read := range ruleReaders(b) {
			first, second := read(), read()
			overwriteBoard(first)
			if !sameBoard(second, b) || !sameBoard(read(), b) {
				t.Fatalf("%s of %v changes with another result", name, b)
			}
		}
	}
}

// No two slices of what is read share memory, nor what lies behind them.
func TestSlicesOfReadBoardsAreApart(t *testing.T) {
	boards := []impl.Board{exampleBoard(), {Rules: fullRules(), Map: variedMap(4, 3)}}
	for _, r := range append(boundRules(), sizedRules(6, 4), sizedRules(6, 1), sizedRules(5, 3)) {
		boards = append(boards, impl.Board{Rules: r, Map: plainMap(2, 2)})
	}
	for _, b := range boards {
		for name, read := range ruleReaders(b) {
			for n := range intListsOf(b) {
				x := read()
				overwrite(intListsOf(x)[n])
				for k, list := range intListsOf(x) {
					if k != n && !slices.Equal(list, intListsOf(b)[k]) {
						t.Fatalf("%s: list %d of %v changes with list %d: %v", name, k, b, n, list)
					}
				}
			}
			x := read()
			kinds := x.Rules.Kinds[:cap(x.Rules.Kinds)]
			for i := range kinds {
				kinds[i] = impl.Kind{Name: "changed"}
			}
			if !reflect.DeepEqual(x.Rules.Terrains, b.Rules.Terrains) {
				t.Fatalf("%s: the terrains of %v change with the kinds", name, b)
			}
		}
	}
}

func TestFaultsAreNew(t *testing.T) {
	const text = "fly\nstack 2\nstack 2\nriver 10\nterrain sea shift 0 height 0 cost 1\n\n \n"
	wantAt, wantCodes := []int{1, 3, 4, 5, 7}, []int{1, 2, 3, 3, 1}
	for _, s := range []string{text, "\n"} {
		if s == "\n" {
			wantAt, wantCodes = []int{2}, []int{4}
		}
		at, codes, ok := impl.RuleFaults(s)
		otherAt, otherCodes, otherOK := impl.RuleFaults(s)
		if !ok || !otherOK || !slices.Equal(at, wantAt) || !slices.Equal(codes, wantCodes) {
			t.Fatalf("RuleFaults of %q: %v, %v, %v", s, at, codes, ok)
		}
		overwrite(at)
		if !slices.Equal(codes, wantCodes) {
			t.Errorf("the codes of %q change with the lines: %v", s, codes)
		}
		overwrite(codes)
		if slices.ContainsFunc(at, func(n int) bool { return n != -99 }) {
			t.Errorf("the lines of %q change with the codes: %v", s, at)
		}
		if !slices.Equal(otherAt, wantAt) || !slices.Equal(otherCodes, wantCodes) {
			t.Errorf("other faults of %q change: %v, %v", s, otherAt, otherCodes)
		}
		wantFaults(t, s, spelledFaults(wantAt, wantCodes))
	}
}

// A call leaves nothing behind for the next one.
func TestTextsAreReadApart(t *testing.T) {
	texts := []string{linesOf("stack 3", footLine, plainLine), linesOf("stack 4", plainLine, footLine), linesOf(footLine, plainLine), linesOf("stack 9", footLine)}
	for range 3 {
		for _, s := range texts {
			want := faultsBySearch(s)
			wantFaults(t, s, want)
			if want == "" {
				wantRules(t, s, rulesBySearch(s))
			}
		}
	}
}

// No bytes make a reader panic.
func FuzzRuleReaders(f *testing.F) {
	for _, c := range rulesTexts {
		f.Add(c.text)
	}
	board, _ := impl.BoardText(exampleBoard())
	f.Add(board)
	f.Add("stack 2\nstack 3\nfly\nriver 12\n# a comment\n\nkind A strength 1 moves 0 steps 1 view 0")
	f.Fuzz(func(t *testing.T, s string) {
		if r, ok := impl.ParseRules(s); ok && linesOf(writtenRules(r)...) != s {
			t.Errorf("%q is read as %v", s, r)
		}
		if b, ok := impl.ParseBoard(s); ok && boardTextOf(t, b) != s {
			t.Errorf("%q is read as %v", s, b)
		}
		if at, codes, ok := impl.RuleFaults(s); ok && spelledFaults(at, codes) != faultsBySearch(s) {
			t.Errorf("RuleFaults(%q) = %v, %v, want %s", s, at, codes, faultsBySearch(s))
		}
	})
}
