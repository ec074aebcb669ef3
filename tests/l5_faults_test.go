package tests

import (
	"fmt"
	"slices"
	"strconv"
	"strings"
	"testing"

	"loop.example/g00886/impl"
)

func kindNamed(name string) string {
	return "kind " + name + " strength 1 moves 0 steps 1 view 0"
}

// terrainNamed returns a line with a number of costs.
func terrainNamed(name string, costs int) string {
	return "terrain " + name + " shift 0 height 0 cost" + strings.Repeat(" 1", costs)
}

func kindsNamed(names ...string) []string {
	var lines []string
	for _, name := range names {
		lines = append(lines, kindNamed(name))
	}
	return lines
}

func terrainsNamed(costs int, names ...string) []string {
	var lines []string
	for _, name := range names {
		lines = append(lines, terrainNamed(name, costs))
	}
	return lines
}

func TestFaultsExample(t *testing.T) {
	at, codes, ok := impl.RuleFaults("stack 2\nstack 3\nfly\nriver 12\n")
	if !ok || !slices.Equal(at, []int{2, 3, 4}) || !slices.Equal(codes, []int{impl.FtTwice, impl.FtSyntax, impl.FtRange}) {
		t.Error(at, codes, ok)
	}
	if r, line, code, ok := impl.ReadRules("stack 2\nstack 3\nfly\nriver 12\n"); ok || line != 2 || code != impl.FtTwice || r.Stack != 0 {
		t.Error(r, line, code, ok)
	}
}

// wantFaultOfLine requires a line to have a code alone, after other lines and
// before them. It follows rules without a fault, so that nothing is missing.
func wantFaultOfLine(t *testing.T, line, code string) {
	t.Helper()
	foot, plain := kindNamed("foot"), terrainNamed("plain", 1)
	wantFaults(t, linesOf(line, foot, plain), "1 "+code)
	wantFaults(t, linesOf(foot, line, plain), "2 "+code)
	wantFaults(t, linesOf(foot, plain, line), "3 "+code)
	wantFaults(t, linesOf("", foot, "# a", plain, line, "fly", line), "5 "+code+", 6 syntax, 7 "+code)
	// What is missing is no fault beside others.
	wantFaults(t, linesOf(line), "1 "+code)
	wantFaults(t, linesOf("#", line, ""), "2 "+code)
}

func TestSyntaxFaults(t *testing.T) {
	lines := []string{
		"fly", "fly 2", "2", "2 stack", "N", "stack", "stack ", "stack 2 ", " stack 2", "stack  2", "stack 2 3", "stack two", "stack N", "stack -",
		"stack\t2", "stack2", "Stack 2", "STACK 2", "stacks 2", "stac 2", "limit stack 2", "stack 2;", "stack=2", "stack: 2", "stack 2 zone", "stack 2 blocks",
		"river", "road", "supply", "turns", "turn 3", "zone", "blocks", "cost 1", "kind", "kind ", "kind foot", "kind zone", "terrain", "terrain ", "terrain sea",
		"terrain blocks", "kind NAME strength N moves N steps N view N", "terrain NAME shift N height N cost N", "map 1 1", "odds 1/1 dice 1",
		"kind a strength 1 moves 0 steps 1 view", "kind a strength 1 moves 0 steps 1", "kind a strength 1 moves 0 steps 1 view 0 0",
		"kind a strength 1 moves 0 steps 1 view 0 zone zone", "kind a strength 1 moves 0 steps 1 view 0 blocks", "kind a strength 1 moves 0 steps 1 view zone",
		"kind a strength 1 moves 0 view 0 steps 1", "kind a moves 0 strength 1 steps 1 view 0", "kind a strength 1 moves 0 steps 1 zone view 0",
		"kind a zone strength 1 moves 0 steps 1 view 0", "kind a b strength 1 moves 0 steps 1 view 0", "kind strength 1 moves 0 steps 1 view 0",
		"kind  strength 1 moves 0 steps 1 view 0", "kind a strength 1 moves 0 steps 1 view 0 ", "kind a  strength 1 moves 0 steps 1 view 0",
		"kind a strength 1 moves 0 steps 1 view 0 zones", "kind a Strength 1 moves 0 steps 1 view 0", "kind a strength x moves 0 steps 1 view 0",
		"kind a strength 1 moves 0 steps 1 view 0\r", "kinds a strength 1 moves 0 steps 1 view 0", "kind a strength  moves 0 steps 1 view 0",
		"kind a 1 0 1 0", "kind a strength 1 strength 0 steps 1 view 0", "kind a strength 1 moves 0 steps 1 view 0 # a",
		"terrain a shift 0 height 0 cost", "terrain a shift 0 height 0 cost ", "terrain a shift 0 height 0 cost blocks", "terrain a shift 0 height 0",
		"terrain a shift 0 height 0 blocks", "terrain a shift 0 height 0 cost 1 zone", "terrain a shift 0 height 0 cost 1 blocks blocks",
		"terrain a shift 0 height 0 cost 1 blocks 1", "terrain a height 0 shift 0 cost 1", "terrain a cost 1 shift 0 height 0", "terrain a shift 0 cost 1",
		"terrain a shift 0 height 0 1", "terrain  shift 0 height 0 cost 1", "terrain shift 0 height 0 cost 1", "terrain a b shift 0 height 0 cost 1",
		"terrain a shift 0 height 0 cost 1 ", "terrain a shift 0 height 0 cost  1", "terrain a shift 0 height 0 cost x", "terrain a shift 0 height 0 cost 1,1",
		"terrain a shift x height 0 cost 1", "terrain a shift 0 height x cost 1", "terrain a shift 0 height 0 costs 1", "terrains a shift 0 height 0 cost 1",
		"terrain a shift 0 height 0 cost 1 cost 1", "terrain a blocks shift 0 height 0 cost 1", "kind a shift 0 height 0 cost 1",
		"terrain a strength 1 moves 0 steps 1 view 0", "terrain a shift 0 height 0 cost 1 # a", "terrain a shift 0 height 0 cost 1 Blocks",
	}
	for _, line := range lines {
		wantFaultOfLine(t, line, "syntax")
	}
}

// Numbers of at most six digits are numbers, and beyond the ranges; others are
// none.
func TestNumbersInLines(t *testing.T) {
	forms := []string{"stack N", "river N", "road N", "supply N", "turns N", "kind a strength N moves 0 steps 1 view 0", "kind a strength 1 moves N steps 1 view 0",
		"kind a strength 1 moves 0 steps N view 0", "kind a strength 1 moves 0 steps 1 view N zone", "terrain a shift N height 0 cost 1",
		"terrain a shift 0 height N cost 1", "terrain a shift 0 height 0 cost N", "terrain a shift 0 height 0 cost N blocks"}
	codes := map[string][]string{
		"range": {"999999", "-999999", "100000", "-100000", "123456", "99999", "31", "-4", "-10"},
		"syntax": {"1000000", "-1000000", "9999999", "-9999999", "1234567", "10000000000000000000000", "9223372036854775808", "4294967297", "18446744073709551617",
			"-0", "00", "01", "-01", "001", "000001", "0000001", "+1", "+0", "--1", "-", "- 1", "", "1-", "1.0", "1.", ".1", "1e0", "0x1", "1_0", "0b1", "0o1",
			"\u0661", "\uff11", "1\t", "\t1", "one", "1,", "'1'", "1\x00", "\xff", "N"},
	}
	for _, form := range forms {
		for code, numbers := range codes {
			for _, n := range numbers {
				wantFaultOfLine(t, strings.Replace(form, "N", n, 1), code)
			}
		}
	}
}

// Each number meets its limits exactly and passes them by one; beyond them it is
// a fault of its line alone.
func TestRangesOfNumbers(t *testing.T) {
	full := writtenRules(fullRules())
	for _, x := range ruleNumbers() {
		for n := x.least - 2; n <= x.greatest+2; n++ {
			r := fullRules()
			*x.at(&r) = n
			lines := writtenRules(r)
			if x.least <= n && n <= x.greatest {
				wantRules(t, linesOf(lines...), r)
				continue
			}
			changed := slices.IndexFunc(lines, func(line string) bool { return !slices.Contains(full, line) })
			if changed < 5 || changed >= 9 {
				wantFaults(t, linesOf(lines...), fmt.Sprint(changed+1, " range"))
				continue
			}
			// Without one of the four kinds, the terrains have too many costs.
			faults := []string{fmt.Sprint(changed+1, " range")}
			for line := 10; line <= 15; line++ {
				faults = append(faults, fmt.Sprint(line, " range"))
			}
			wantFaults(t, linesOf(lines...), strings.Join(faults, ", "))
		}
	}
}

func TestLimitsTwice(t *testing.T) {
	for _, name := range []string{"stack", "river", "road", "supply", "turns"} {
		good, other, beyond := name+" 1", name+" 2", name+" 99"
		both := linesOf(footLine, plainLine)
		// After a line without a fault, whatever lies between.
		wantFaults(t, linesOf(good, good)+both, "2 twice")
		wantFaults(t, linesOf(good, other)+both, "2 twice")
		wantFaults(t, linesOf(good)+both+linesOf("", "# a", other), "6 twice")
		wantFaults(t, linesOf(good, other, good, other)+both, "2 twice, 3 twice, 4 twice")
		// A number beyond the range, and a line that is not of the form.
		wantFaults(t, linesOf(good, beyond)+both, "2 twice")
		wantFaults(t, linesOf(good, name+" -1000000", name+" x", name)+both, "2 syntax, 3 syntax, 4 syntax")
		wantFaults(t, linesOf(good)+both+other, "4 syntax")
		// After a line with a fault.
		wantFaults(t, linesOf(beyond, good)+both, "1 range")
		wantFaults(t, linesOf(beyond, beyond, good, beyond)+both, "1 range, 2 range, 4 twice")
		wantFaults(t, linesOf(name+" 01", good, name)+both, "1 syntax, 3 syntax")
		// Other limits are other ones.
		wantFaults(t, linesOf("stack 1", "river 1", "road 1", "supply 1", "turns 1", good)+both, "6 twice")
	}
}

func TestKindsTwice(t *testing.T) {
	a, b, sea := kindNamed("a"), kindNamed("b"), terrainNamed("sea", 1)
	wantFaults(t, linesOf(a, a, sea), "2 twice")
	wantFaults(t, linesOf(a, sea, "", a+" zone"), "4 twice")
	wantFaults(t, linesOf(a, a, a, sea), "2 twice, 3 twice")
	wantFaults(t, linesOf(a, b, a, b, terrainNamed("sea", 2)), "3 twice, 4 twice")
	// After a line with a fault, be it of the form, of a number or of a name.
	wantFaults(t, linesOf("kind a strength 10 moves 0 steps 1 view 0", a, sea), "1 range")
	wantFaults(t, linesOf("kind a strength 10 moves 0 steps 1 view 0", a, a, sea), "1 range, 3 twice")
	wantFaults(t, linesOf(a+" ", a, sea), "1 syntax")
	wantFaults(t, linesOf(a+" ", a, a+" ", a, sea), "1 syntax, 3 syntax, 4 twice")
	// A number beyond the range plays no part in a repeated line.
	wantFaults(t, linesOf(a, "kind a strength 10 moves 0 steps 1 view 0", sea), "2 twice")
	wantFaults(t, linesOf(a, "kind a strength 1 moves 0 steps 0 view 9", sea), "2 twice")
	wantFaults(t, linesOf(a, "kind a strength 1 moves 0 steps x view 9", sea), "2 syntax")
	// A name that is the beginning of another one is another name.
	wantFaults(t, linesOf(kindNamed("ab"), a, kindNamed("abc"), terrainNamed("sea", 3)), "")
}

func TestTerrainsTwice(t *testing.T) {
	kind, a, b := kindNamed("foot"), terrainNamed("a", 1), terrainNamed("b", 1)
	wantFaults(t, linesOf(kind, a, a), "3 twice")
	wantFaults(t, linesOf(a, "", a+" blocks", kind), "3 twice")
	wantFaults(t, linesOf(a, b, b, a, kind, a), "3 twice, 4 twice, 6 twice")
	// After a line with a fault, be it of the form, of a number, of their number
	// or of a name.
	wantFaults(t, linesOf("terrain a shift 4 height 0 cost 1", a, kind), "1 range")
	wantFaults(t, linesOf("terrain a shift 4 height 0 cost 1", a, a, kind), "1 range, 3 twice")
	wantFaults(t, linesOf(terrainNamed("a", 2), a, kind), "1 range")
	wantFaults(t, linesOf(terrainNamed("a", 2), a, terrainNamed("a", 2), kind), "1 range, 3 twice")
	wantFaults(t, linesOf(a+" ", a, kind), "1 syntax")
	// Numbers play no part in a repeated line.
	wantFaults(t, linesOf(a, "terrain a shift 4 height 0 cost 1", kind), "2 twice")
	wantFaults(t, linesOf(a, "terrain a shift 0 height 4 cost 10", kind), "2 twice")
	wantFaults(t, linesOf(a, terrainNamed("a", 2), terrainNamed("a", 9), kind), "2 twice, 3 twice")
	wantFaults(t, linesOf(a, "terrain a shift 0 height 0 cost x", kind), "2 syntax")
	// Without a kind, all terrains have a fault, so that none is repeated.
	wantFaults(t, linesOf(a, a), "1 range, 2 range")
}

func TestNamesThatAreNotValid(t *testing.T) {
	names := []string{"A", "Foot", "fOOT", "foo1", "1", "12", "a1", "foot!", "a-b", "-", "a_b", "a.b", "é", "föte", "ß", "abcdefghi", "strengths", "abcdefghijklmnopqrstuvwxyz",
		"N", "NAME", "#", "#a", "a#", "\t", "a\tb", "\r", "a\r", "\x00", "a\x00", "\xff", "`", "{", "\u00a0", "a\u00a0b", "\ufeffa", "KIND"}
	for _, name := range names {
		wantFaultOfLine(t, kindNamed(name), "twice")
		wantFaultOfLine(t, kindNamed(name)+" zone", "twice")
		wantFaultOfLine(t, terrainNamed(name, 1), "twice")
		wantFaultOfLine(t, terrainNamed(name, 1)+" blocks", "twice")
		// The name counts before numbers and after the form.
		wantFaultOfLine(t, terrainNamed(name, 2), "twice")
		wantFaultOfLine(t, "kind "+name+" strength 10 moves 10 steps 5 view 5", "twice")
		wantFaultOfLine(t, "terrain "+name+" shift 4 height 4 cost 10", "twice")
		wantFaultOfLine(t, kindNamed(name)+" ", "syntax")
		wantFaultOfLine(t, "terrain "+name+" shift 4 height 4 cost 0000001", "syntax")
	}
	for _, name := range []string{"", " ", "a b", "  "} {
		wantFaultOfLine(t, kindNamed(name), "syntax")
		wantFaultOfLine(t, terrainNamed(name, 1), "syntax")
	}
	// A line with a bad name is no kind for terrains, and none that is repeated.
	wantFaults(t, linesOf(kindNamed("A"), kindNamed("A"), kindNamed("b"), terrainNamed("a", 1)), "1 twice, 2 twice")
	wantFaults(t, linesOf(kindNamed("A"), kindNamed("b"), terrainNamed("a", 2)), "1 twice, 3 range")
}

// There may be as many kinds and terrains as the limits have; lines with faults
// do not count.
func TestTooManyKinds(t *testing.T) {
	four := kindsNamed("a", "b", "c", "d")
	sea := terrainNamed("sea", 4)
	wantFaults(t, linesOf(append(slices.Clone(four), sea)...), "")
	wantFaults(t, linesOf(append(slices.Clone(four), kindNamed("e"), sea)...), "5 range")
	wantFaults(t, linesOf(append(slices.Clone(four), kindNamed("e"), kindNamed("f"), kindNamed("e"), sea)...), "5 range, 6 range, 7 range")
	wantFaults(t, linesOf(append(slices.Clone(four), kindNamed("e"), terrainNamed("sea", 5))...), "5 range, 6 range")
	wantFaults(t, linesOf(append([]string{sea}, append(slices.Clone(four), "", kindNamed("e"))...)...), "7 range")
	// One that is repeated or has a bad name, and one with two faults.
	wantFaults(t, linesOf(append(slices.Clone(four), kindNamed("d"), kindNamed("a"), kindNamed("E"), sea)...), "5 twice, 6 twice, 7 twice")
	wantFaults(t, linesOf(append(slices.Clone(four), "kind e strength 0 moves 0 steps 1 view 0", "kind e", sea)...), "5 range, 6 syntax")
	// Lines with faults leave room for others.
	wantFaults(t, linesOf(kindNamed("a"), kindNamed("a"), "kind b", "kind b strength 0 moves 0 steps 1 view 0", kindNamed("b"), kindNamed("c"), kindNamed("C"),
		kindNamed("d"), kindNamed("e"), sea), "2 twice, 3 syntax, 4 range, 7 twice, 9 range")
}

func TestTooManyTerrains(t *testing.T) {
	six := terrainsNamed(1, "a", "b", "c", "d", "e", "f")
	foot := kindNamed("foot")
	wantFaults(t, linesOf(append(slices.Clone(six), foot)...), "")
	wantFaults(t, linesOf(append(slices.Clone(six), terrainNamed("g", 1), foot)...), "7 range")
	wantFaults(t, linesOf(append(slices.Clone(six), terrainNamed("g", 1), foot, "#", terrainNamed("g", 1), terrainNamed("h", 1))...), "7 range, 10 range, 11 range")
	// One that is repeated or has a bad name, and one with two faults.
	wantFaults(t, linesOf(append(slices.Clone(six), terrainNamed("f", 1), terrainNamed("a", 2), terrainNamed("G", 1), foot)...), "7 twice, 8 twice, 9 twice")
	wantFaults(t, linesOf(append(slices.Clone(six), terrainNamed("g", 2), "terrain g shift 4 height 0 cost 1", "terrain g", foot)...), "7 range, 8 range, 9 syntax")
	// Lines with faults leave room for others.
	wantFaults(t, linesOf(foot, terrainNamed("a", 2), terrainNamed("a", 1), terrainNamed("a", 1), terrainNamed("B", 1), "terrain b shift 0 height -1 cost 1",
		terrainNamed("b", 1), terrainNamed("c", 1), "terrain d", terrainNamed("d", 1), terrainNamed("e", 1), terrainNamed("f", 1), terrainNamed("g", 1)),
		"2 range, 4 twice, 5 twice, 6 range, 9 syntax, 13 range")
	// Kinds do not count as terrains, nor terrains as kinds.
	wantFaults(t, linesOf(slices.Concat(kindsNamed("a", "b", "c", "d"), terrainsNamed(4, "a", "b", "c", "d", "e", "f"))...), "")
}

// A terrain has one number for each kind, wherever the line of the kind is.
func TestNumbersOfCosts(t *testing.T) {
	names := []string{"a", "b", "c", "d", "e"}
	for kinds := range 6 {
		need := min(kinds, 4)
		for costs := 1; costs <= 7; costs++ {
			before := linesOf(append(kindsNamed(names[:kinds]...), terrainNamed("sea", costs))...)
			after := linesOf(append([]string{terrainNamed("sea", costs)}, kindsNamed(names[:kinds]...)...)...)
			var fifth, first []string
			if kinds == 5 {
				fifth, first = []string{"5 range"}, []string{"6 range"}
			}
			if costs == need {
				wantFaults(t, before, strings.Join(fifth, ", "))
				wantFaults(t, after, strings.Join(first, ", "))
				continue
			}
			wantFaults(t, before, strings.Join(append(fifth, strconv.Itoa(kinds+1)+" range"), ", "))
			wantFaults(t, after, strings.Join(append([]string{"1 range"}, first...), ", "))
		}
	}
	many := linesOf(kindNamed("a"), "terrain sea shift 0 height 0 cost"+strings.Repeat(" 1", 10000))
	wantFaults(t, many, "2 range")
}

// A line of a kind with a fault does not count for terrains.
func TestCostsBesideFaultyKinds(t *testing.T) {
	good := []string{kindNamed("a"), kindNamed("b")}
	faulty := map[string]string{"kind c": "syntax", kindNamed("c") + " ": "syntax", kindNamed("a"): "twice", kindNamed("C"): "twice",
		"kind c strength 0 moves 0 steps 1 view 0": "range", "kind c strength 1 moves 0 steps 1 view 5": "range"}
	for line, code := range faulty {
		two, three := terrainNamed("sea", 2), terrainNamed("sea", 3)
		wantFaults(t, linesOf(good[0], line, good[1], two), "2 "+code)
		wantFaults(t, linesOf(good[0], line, good[1], three), "2 "+code+", 4 range")
		wantFaults(t, linesOf(two, good[0], good[1], line), "4 "+code)
		wantFaults(t, linesOf(three, good[0], good[1], line), "1 range, 4 "+code)
		wantFaults(t, linesOf(good[0], two, line, three, good[1]), "3 "+code+", 4 twice")
		wantFaults(t, linesOf(good[0], three, line, two, good[1]), "2 range, 3 "+code)
	}
	// Without any kind there is no right number.
	wantFaults(t, linesOf("kind a", terrainNamed("sea", 1)), "1 syntax, 2 range")
	wantFaults(t, linesOf(kindNamed("A"), terrainNamed("sea", 1), terrainNamed("land", 2)), "1 twice, 2 range, 3 range")
	// The last line is no kind without its newline.
	wantFaults(t, linesOf(terrainNamed("sea", 1), terrainNamed("land", 2), good[0])+good[1], "2 range, 4 syntax")
}

func TestLastLineWithoutNewline(t *testing.T) {
	both := linesOf(footLine, plainLine)
	for _, line := range []string{"stack 2", "river 3", footLine, plainLine, kindNamed("a"), terrainNamed("a", 1), "fly", " ", "#", "# a comment", "stack", "stack 9", "\r",
		kindNamed("A"), terrainNamed("sea", 2)} {
		wantFaults(t, both+line, "3 syntax")
		wantFaults(t, line, "1 syntax")
		wantFaults(t, "\n"+line, "2 syntax")
	}
	wantFaults(t, linesOf(footLine)+plainLine, "2 syntax")
	wantFaults(t, linesOf(plainLine)+footLine, "1 range, 2 syntax")
	wantFaults(t, "stack 2\nstack 3\nstack 4", "2 twice, 3 syntax")
	wantFaults(t, "stack 9\nstack 2\nstack 4", "1 range, 3 syntax")
}

// What is missing is a fault behind the last line if there is no other one.
func TestMissing(t *testing.T) {
	texts := map[string]string{
		"": "1 missing", "\n": "2 missing", "#\n": "2 missing", "\n\n# a\n": "4 missing", "stack 2\n": "2 missing",
		linesOf(footLine): "2 missing", linesOf("", footLine, "#"): "4 missing", linesOf("stack 3", "turns 3"): "3 missing",
		linesOf(kindsNamed("a", "b", "c", "d")...):           "5 missing",
		linesOf("#"+footLine, "#"+plainLine):                 "3 missing",
		linesOf(footLine, "#"+plainLine):                     "3 missing",
		linesOf(writtenRules(sizedRules(0, 4))...):           "10 missing",
		linesOf(writtenRules(sizedRules(0, 0))...):           "6 missing",
		linesOf(plainLine):                                   "1 range",
		linesOf("", plainLine, plainLine):                    "2 range, 3 range",
		linesOf("#"+footLine, plainLine):                     "2 range",
		linesOf("fly"):                                       "1 syntax",
		linesOf("stack 9"):                                   "1 range",
		linesOf("stack 2", "stack 2"):                        "2 twice",
		linesOf("stack 2", "stack 2", footLine):              "2 twice",
		linesOf("fly", plainLine):                            "1 syntax, 2 range",
		linesOf("fly", footLine):                             "1 syntax",
		linesOf(footLine, footLine):                          "2 twice",
		linesOf(footLine, terrainNamed("sea", 2)):            "2 range",
		linesOf("kind foot", "terrain plain"):                "1 syntax, 2 syntax",
		linesOf(footLine, "terrain plain"):                   "2 syntax",
		linesOf(kindNamed("A"), "stack 2"):                   "1 twice",
		linesOf(footLine, terrainNamed("Sea", 1), "turns 9"): "2 twice",
	}
	for s, want := range texts {
		wantFaults(t, s, want)
	}
}

// Each pair of lines of a few with faults of every code has the faults of both.
func TestFaultsBesideOthers(t *testing.T) {
	good := []string{"stack 2", kindNamed("a"), terrainNamed("a", 1)}
	faulty := map[string]string{"fly": "syntax", "stack 2 ": "syntax", "": "", "# a": "", "stack 3": "twice", kindNamed("a"): "twice", kindNamed("B"): "twice",
		terrainNamed("a", 1): "twice", terrainNamed("B", 1): "twice", "river 10": "range", "kind b strength 0 moves 0 steps 1 view 0": "range",
		terrainNamed("b", 2): "range", "terrain b shift 0 height 4 cost 1": "range", "stack 9": "twice", "turns 0": "range"}
	for first, firstCode := range faulty {
		for second, secondCode := range faulty {
			var want []string
			if firstCode != "" {
				want = append(want, "4 "+firstCode)
			}
			if secondCode != "" {
				want = append(want, "6 "+secondCode)
			}
			lines := append(slices.Clone(good), first, "", second)
			wantFaults(t, linesOf(lines...), strings.Join(want, ", "))
			if got := faultsBySearch(linesOf(lines...)); got != strings.Join(want, ", ") {
				t.Errorf("the search finds %s in %q, want %s", got, lines, want)
			}
		}
	}
}
