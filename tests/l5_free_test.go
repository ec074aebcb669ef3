package tests

import (
	"fmt"
	"math/rand"
	"slices"
	"strings"
	"testing"

	"loop.example/g00886/impl"
)

func TestFreeTextExample(t *testing.T) {
	wantRules(t, linesOf(footLine, plainLine), footRules())
	const text = "# A small war.\n\nturns 12\nterrain plain shift 0 height 0 cost 1 2\n" +
		"kind horse strength 5 moves 6 steps 2 view 4\n\n# blocks the view\nterrain wood shift -1 height 0 cost 2 0 blocks\nriver 2\n" +
		"kind foot strength 2 moves 3 steps 4 view 2 zone\n#end\n"
	wantRules(t, text, impl.Rules{
		Terrains: []impl.Terrain{{Name: "plain", Cost: []int{1, 2}}, {Name: "wood", Cost: []int{2, 0}, Shift: -1, Blocks: true}},
		Kinds:    []impl.Kind{{Name: "horse", Strength: 5, Moves: 6, Steps: 2, View: 4}, {Name: "foot", Strength: 2, Moves: 3, Steps: 4, View: 2, Zone: true}},
		Stack:    2, River: 2, Road: 1, Supply: 5, Turns: 12,
	})
}

// Each limit has its usual value if there is no line for it, whatever other
// lines there are.
func TestUsualLimits(t *testing.T) {
	usual := footRules()
	given := impl.Rules{Terrains: usual.Terrains, Kinds: usual.Kinds, Stack: 3, River: 7, Road: 4, Supply: 19, Turns: 25}
	limits := []func(r *impl.Rules) *int{
		func(r *impl.Rules) *int { return &r.Stack }, func(r *impl.Rules) *int { return &r.River },
		func(r *impl.Rules) *int { return &r.Road }, func(r *impl.Rules) *int { return &r.Supply },
		func(r *impl.Rules) *int { return &r.Turns },
	}
	for chosen := range 1 << len(limits) {
		want := usual
		var lines []string
		for i, limit := range limits {
			if chosen>>i&1 == 1 {
				*limit(&want) = *limit(&given)
				lines = append(lines, writtenRules(given)[i])
			}
		}
		wantRules(t, linesOf(append(lines, footLine, plainLine)...), want)
		slices.Reverse(lines)
		wantRules(t, linesOf(append([]string{plainLine, footLine}, lines...)...), want)
	}
}

// A line that gives a limit its usual value is a line for it.
func TestLimitsWithUsualValues(t *testing.T) {
	lines := writtenRules(footRules())
	wantRules(t, linesOf(lines...), footRules())
	for i, line := range lines[:5] {
		name := strings.Fields(line)[0]
		wantFaults(t, linesOf(append(slices.Clone(lines), name+" 3")...), "8 twice")
		wantFaults(t, linesOf(lines[i], footLine, plainLine, line), "4 twice")
	}
}

// orderedRules returns the rules of fullRules with the kinds and terrains in the
// order of their lines.
func orderedRules(t *testing.T, lines []string) impl.Rules {
	t.Helper()
	full := fullRules()
	r := full
	r.Kinds, r.Terrains = nil, nil
	for _, line := range lines {
		words := strings.Fields(line)
		if i, ok := impl.KindNamed(full, words[1]); ok && words[0] == "kind" {
			r.Kinds = append(r.Kinds, full.Kinds[i])
		}
		if i, ok := impl.TerrainNamed(full, words[1]); ok && words[0] == "terrain" {
			r.Terrains = append(r.Terrains, full.Terrains[i])
		}
	}
	return r
}

// Lines may come in any order; that of the kinds and that of the terrains are
// those of the rules.
func TestLinesInAnyOrder(t *testing.T) {
	lines := writtenRules(fullRules())
	random := rand.New(rand.NewSource(5))
	orders := [][]string{slices.Clone(lines), slices.Clone(lines), slices.Concat(lines[9:], lines[:9]), slices.Concat(lines[5:], lines[:5])}
	slices.Reverse(orders[1])
	for range 200 {
		order := slices.Clone(lines)
		random.Shuffle(len(order), func(i, k int) { order[i], order[k] = order[k], order[i] })
		orders = append(orders, order)
	}
	for _, order := range orders {
		wantRules(t, linesOf(order...), orderedRules(t, order))
	}
	// All orders of a few lines.
	few := []string{"stack 3", footLine, plainLine, "turns 7"}
	want := footRules()
	want.Stack, want.Turns = 3, 7
	for _, p := range patterns(4, 4) {
		if sorted := slices.Sorted(slices.Values(p)); slices.Equal(sorted, []int{0, 1, 2, 3}) {
			wantRules(t, linesOf(few[p[0]], few[p[1]], few[p[2]], few[p[3]]), want)
		}
	}
}

// Empty lines and comments may stand before and after each line; what a comment
// has in it plays no part.
func TestEmptyLinesAndComments(t *testing.T) {
	lines := []string{"stack 3", footLine, plainLine}
	want := footRules()
	want.Stack = 3
	skipped := []string{"", "#", "##", "# a comment", "#stack 4", "#stack 2", "# ", "#\t", "#" + footLine, "# " + plainLine,
		"#\xff\x00", "# fly", "#" + strings.Repeat("x", 10000)}
	for _, line := range skipped {
		for i := range len(lines) + 1 {
			wantRules(t, linesOf(slices.Insert(slices.Clone(lines), i, line)...), want)
			wantRules(t, linesOf(slices.Insert(slices.Clone(lines), i, line, line, "", line)...), want)
		}
	}
	// Only the first byte of a line makes it a comment, and only a line without
	// any byte is empty.
	for _, line := range []string{" #", " ", "\t", "\t#", "\r", "stack #", "stack 3 #", "stack 3#", "stack #3", "//", ";", "--", "\x00", "\ufeff#"} {
		for i := range len(lines) + 1 {
			wantFaults(t, linesOf(slices.Insert(slices.Clone(lines), i, line)...), fmt.Sprint(i+1, " syntax"))
		}
	}
}

func TestKindAndTerrainOfTheSameName(t *testing.T) {
	want := footRules()
	want.Terrains[0].Name = "foot"
	foot := "terrain foot shift 0 height 0 cost 1"
	wantRules(t, linesOf(footLine, foot), want)
	wantRules(t, linesOf(foot, footLine), want)
	wantFaults(t, linesOf(foot, footLine, foot, footLine), "3 twice, 4 twice")
}

// Names are words of the language as well, or beginnings of others.
func TestNamesOfEverySort(t *testing.T) {
	names := []string{"a", "z", "zz", "abcdefgh", "strength", "moves", "steps", "view", "zone", "blocks", "shift", "height", "cost",
		"kind", "terrain", "stack", "river", "road", "supply", "turns", "fo", "foo", "foots", "map"}
	for _, name := range names {
		want := footRules()
		want.Kinds[0].Name, want.Terrains[0].Name = name, name
		wantRules(t, linesOf(strings.Replace(footLine, "foot", name, 1), strings.Replace(plainLine, "plain", name, 1)), want)
	}
	for _, name := range names {
		kind, terrain := strings.Replace(footLine, "foot", name, 1), strings.Replace(plainLine, "plain", name, 1)
		wantFaults(t, linesOf("kind other strength 1 moves 0 steps 1 view 0", kind, terrain+" 1",
			"terrain other shift 0 height 0 cost 1 1"), "")
	}
}

// MaxRuleLines lines are read, whatever they are; one more is not.
func TestNumberOfLines(t *testing.T) {
	base := []string{footLine, plainLine}
	for _, filler := range []string{"", "#", "# a comment"} {
		lines := slices.Concat(base, slices.Repeat([]string{filler}, 38))
		wantRules(t, linesOf(lines...), footRules())
		wantTooLong(t, linesOf(append(slices.Clone(lines), filler)...))
		slices.Reverse(lines)
		wantRules(t, linesOf(lines...), footRules())
		wantRules(t, linesOf(lines[1:]...), footRules())
		wantTooLong(t, linesOf(append(slices.Clone(lines), filler)...))
		wantTooLong(t, linesOf(append([]string{filler}, lines...)...))
		// A line without its newline is a line as well.
		wantTooLong(t, linesOf(lines...)+"#")
		wantTooLong(t, linesOf(lines...)+"stack 2")
		wantTooLong(t, linesOf(lines...)+" ")
	}
	wantFaults(t, strings.Repeat("\n", 40), "41 missing")
	wantFaults(t, strings.Repeat("\n", 39), "40 missing")
	wantFaults(t, strings.Repeat("#\n", 39)+"#", "40 syntax")
	wantFaults(t, strings.Repeat("\n", 39)+"fly", "40 syntax")
	wantFaults(t, strings.Repeat("\n", 39)+"fly\n", "40 syntax")
	for _, s := range []string{strings.Repeat("\n", 41), strings.Repeat("\n", 40) + "x", strings.Repeat("fly\n", 41), strings.Repeat("\n", 100000),
		strings.Repeat("stack 2\n", 100000), "fly\n" + strings.Repeat("\n", 40), strings.Repeat("fly\n", 40) + "\n"} {
		wantTooLong(t, s)
	}
	var all []string
	for i := range 40 {
		all = append(all, fmt.Sprint(i+1, " syntax"))
	}
	wantFaults(t, strings.Repeat("fly\n", 40), strings.Join(all, ", "))
	wantFaults(t, strings.Repeat("fly\n", 39)+"fly", strings.Join(all, ", "))
}

// linePool returns lines of which random texts are made: lines with and without
// faults, with the numbers at their limits and beyond them.
func linePool() []string {
	pool := []string{"", "#", "# a", "fly", " ", "stack", "stack 2", "stack 4", "stack 5", "stack 0", "stack 02", "stack 2 ", "stack x", "river 0", "river 9",
		"river 10", "river -1", "road 1", "road 0", "road 9", "supply 20", "supply 21", "turns 30", "turns 31", "turns 999999", "turns 1000000",
		"kind", "terrain", "kind a", "terrain a shift 0 height 0 cost", "terrain a shift 0 height 0 cost blocks"}
	for _, name := range []string{"a", "b", "c", "d", "e", "f", "g", "h", "B", "abcdefghi"} {
		kind, terrain := "kind "+name+" strength 1 moves 0 steps 1 view 0", "terrain "+name+" shift 0 height 0 cost"
		pool = append(pool, kind, kind+" zone", kind+" blocks", strings.Replace(kind, "moves 0", "moves 10", 1), strings.Replace(kind, "steps 1", "steps", 1))
		for n := 1; n <= 5; n++ {
			costs := strings.Repeat(" 1", n)
			pool = append(pool, terrain+costs, terrain+costs+" blocks", terrain+costs+" zone", terrain+strings.Repeat(" 10", n), terrain+strings.Repeat(" 01", n))
		}
	}
	return pool
}

// goodPool returns lines of which most texts have a few faults alone.
func goodPool(kinds int) []string {
	var pool []string
	for _, name := range []string{"a", "b", "c", "d", "e", "f", "g"} {
		pool = append(pool, "terrain "+name+" shift 1 height 2 cost"+strings.Repeat(" 3", kinds))
	}
	for _, name := range []string{"p", "q", "r", "s", "t"}[:kinds] {
		pool = append(pool, "kind "+name+" strength 1 moves 0 steps 1 view 0 zone")
	}
	return append(pool, "stack 3", "turns 3", "supply 3", "road 3", "river 3", "", "# a comment")
}

// The faults of random texts are those that a search by patterns finds, and the
// rules of a text without a fault are its.
func TestRandomFreeTexts(t *testing.T) {
	random := rand.New(rand.NewSource(55))
	pool, read := linePool(), 0
	for n := range 20000 {
		lines, length := pool, random.Intn(20)
		if n%4 > 0 {
			lines = goodPool(1 + random.Intn(5))
		}
		var text strings.Builder
		for range length {
			text.WriteString(lines[random.Intn(len(lines))] + "\n")
		}
		s := text.String()
		if n%16 == 0 {
			s = strings.TrimSuffix(s, "\n")
		}
		want := faultsBySearch(s)
		wantFaults(t, s, want)
		if want == "" {
			wantRules(t, s, rulesBySearch(s))
			read++
		}
	}
	if read < 100 {
		t.Errorf("only %d texts have no fault", read)
	}
}

// Each text that differs from one without a fault by a byte has the faults that
// a search by patterns finds.
func TestFreeTextsChangedByOneByte(t *testing.T) {
	texts := []string{rulesTexts[1].text, "#\n\n" + linesOf(plainLine, footLine, "turns 3", "stack 1")}
	for _, text := range texts {
		for _, s := range changedByOneByte(text, "\x00\t\n\r +-/0129:#aeikt\xff") {
			want := faultsBySearch(s)
			wantFaults(t, s, want)
			if want == "" {
				wantRules(t, s, rulesBySearch(s))
			}
		}
	}
}
