package tests

import (
	"fmt"
	"reflect"
	"regexp"
	"slices"
	"strconv"
	"strings"
	"testing"

	"loop.example/g00886/impl"
)

// linesOf returns a text of lines, each with its newline.
func linesOf(lines ...string) string {
	if len(lines) == 0 {
		return ""
	}
	return strings.Join(lines, "\n") + "\n"
}

// footLine and plainLine make rules together, if there is no other kind.
const (
	footLine  = "kind foot strength 2 moves 3 steps 1 view 1 zone"
	plainLine = "terrain plain shift 0 height 0 cost 1"
)

// footRules returns the rules of footLine and plainLine.
func footRules() impl.Rules {
	return impl.Rules{
		Terrains: []impl.Terrain{{Name: "plain", Cost: []int{1}}},
		Kinds:    []impl.Kind{{Name: "foot", Strength: 2, Moves: 3, Steps: 1, Zone: true, View: 1}},
		Stack:    2, Road: 1, Supply: 5, Turns: 10,
	}
}

// writtenRules writes rules, also invalid ones, as the document's table has
// them, line by line.
func writtenRules(r impl.Rules) []string {
	lines := []string{fmt.Sprint("stack ", r.Stack), fmt.Sprint("river ", r.River), fmt.Sprint("road ", r.Road),
		fmt.Sprint("supply ", r.Supply), fmt.Sprint("turns ", r.Turns)}
	for _, k := range r.Kinds {
		line := fmt.Sprintf("kind %s strength %d moves %d steps %d view %d", k.Name, k.Strength, k.Moves, k.Steps, k.View)
		if k.Zone {
			line += " zone"
		}
		lines = append(lines, line)
	}
	for _, x := range r.Terrains {
		line := fmt.Sprintf("terrain %s shift %d height %d cost", x.Name, x.Shift, x.Height)
		for _, n := range x.Cost {
			line += fmt.Sprint(" ", n)
		}
		if x.Blocks {
			line += " blocks"
		}
		lines = append(lines, line)
	}
	return lines
}

// markedRules returns fullRules with chosen zones and blocking terrains, one bit
// for each of them.
func markedRules(zones, blocks int) impl.Rules {
	r := fullRules()
	for i := range r.Kinds {
		r.Kinds[i].Zone = zones>>i&1 == 1
	}
	for i := range r.Terrains {
		r.Terrains[i].Blocks = blocks>>i&1 == 1
	}
	return r
}

// boundRules returns rules with all numbers at their least and rules with all
// numbers at their greatest.
func boundRules() []impl.Rules {
	least, greatest := fullRules(), fullRules()
	for _, x := range ruleNumbers() {
		*x.at(&least), *x.at(&greatest) = x.least, x.greatest
	}
	return []impl.Rules{least, greatest}
}

// someRules returns valid rules of all sizes, with all marks and with each number
// at its limits.
func someRules() []impl.Rules {
	list := append(boundRules(), footRules(), exampleBoard().Rules)
	for terrains := 1; terrains <= 6; terrains++ {
		for kinds := 1; kinds <= 4; kinds++ {
			list = append(list, sizedRules(terrains, kinds))
		}
	}
	for zones := range 16 {
		list = append(list, markedRules(zones, 9*zones&63), markedRules(15-zones, 63-4*zones))
	}
	for _, x := range ruleNumbers() {
		for _, n := range []int{x.least, x.greatest} {
			r := fullRules()
			*x.at(&r) = n
			list = append(list, r)
		}
	}
	return list
}

func rulesTextOf(t *testing.T, r impl.Rules) string {
	t.Helper()
	s, ok := impl.RulesText(r)
	if !ok {
		t.Fatalf("RulesText of %v fails", r)
	}
	return s
}

func boardTextOf(t *testing.T, b impl.Board) string {
	t.Helper()
	s, ok := impl.BoardText(b)
	if !ok {
		t.Fatalf("BoardText of %v fails", b)
	}
	return s
}

// wantRules requires a free text to be read without a fault.
func wantRules(t *testing.T, s string, want impl.Rules) {
	t.Helper()
	r, line, code, ok := impl.ReadRules(s)
	if !ok || line != 0 || code != 0 || !reflect.DeepEqual(r, want) {
		t.Errorf("ReadRules(%q) = %v, %d, %d, %v, want %v", s, r, line, code, ok, want)
	}
	at, codes, ok := impl.RuleFaults(s)
	if !ok || len(at) != 0 || len(codes) != 0 {
		t.Errorf("RuleFaults(%q) = %v, %v, %v, want no fault", s, at, codes, ok)
	}
}

func wantNoRules(t *testing.T, s string) {
	t.Helper()
	r, ok := impl.ParseRules(s)
	wantZero(t, fmt.Sprintf("ParseRules(%q)", s), ok, r)
}

func wantNoBoard(t *testing.T, s string) {
	t.Helper()
	b, ok := impl.ParseBoard(s)
	wantZero(t, fmt.Sprintf("ParseBoard(%q)", s), ok, b)
}

// wantTooLong requires a text with too many lines not to be read at all.
func wantTooLong(t *testing.T, s string) {
	t.Helper()
	r, line, code, ok := impl.ReadRules(s)
	wantZero(t, fmt.Sprintf("ReadRules(%q)", s), ok, r, line, code)
	at, codes, ok := impl.RuleFaults(s)
	wantZero(t, fmt.Sprintf("RuleFaults(%q)", s), ok, at, codes)
}

// faultWords[code] stands for a code in the faults that a test wants.
var faultWords = []string{"none", "syntax", "twice", "range", "missing"}

// spelledFaults writes faults as 2 twice, 3 syntax.
func spelledFaults(at, codes []int) string {
	var list []string
	for i, line := range at {
		list = append(list, fmt.Sprint(line, " ", faultWords[codes[i]]))
	}
	return strings.Join(list, ", ")
}

// wantFaults requires the faults of a text, the first of which ReadRules finds.
func wantFaults(t *testing.T, s, want string) {
	t.Helper()
	at, codes, ok := impl.RuleFaults(s)
	if !ok || len(at) != len(codes) || spelledFaults(at, codes) != want {
		t.Errorf("RuleFaults(%q) = %v, %v, %v, want %s", s, at, codes, ok, want)
		return
	}
	r, line, code, ok := impl.ReadRules(s)
	if len(at) == 0 {
		if !ok || line != 0 || code != 0 || !impl.IsRules(r) {
			t.Errorf("ReadRules(%q) = %v, %d, %d, %v, want no fault", s, r, line, code, ok)
		}
		return
	}
	wantZero(t, fmt.Sprintf("ReadRules(%q)", s), ok, r)
	if line != at[0] || code != codes[0] {
		t.Errorf("ReadRules(%q) finds %d, %d, want %d, %d", s, line, code, at[0], codes[0])
	}
}

// The forms of lines, by patterns.
const numberPattern = ` (0|-?[1-9][0-9]{0,5})`

var linePatterns = map[string]*regexp.Regexp{
	"limit":   regexp.MustCompile(`^(stack|river|road|supply|turns)()` + numberPattern + `()$`),
	"kind":    regexp.MustCompile(`^(kind) ([^ ]+)((?: (?:strength|moves|steps|view)` + numberPattern + `){4})( zone)?$`),
	"terrain": regexp.MustCompile(`^(terrain) ([^ ]+)( shift` + numberPattern + ` height` + numberPattern + ` cost(?:` + numberPattern + `)+)( blocks)?$`),
}

var kindWords = regexp.MustCompile(` strength [^ ]+ moves [^ ]+ steps [^ ]+ view [^ ]+`)

// searchedLine is a line of a free text as a search by patterns sees it.
type searchedLine struct {
	skipped bool
	sort    string // kind, terrain or the name of a limit
	name    string
	numbers []int
	mark    bool
	code    int
}

func searchedLineOf(line string, ended bool) searchedLine {
	if ended && (line == "" || strings.HasPrefix(line, "#")) {
		return searchedLine{skipped: true}
	}
	for _, pattern := range linePatterns {
		parts := pattern.FindStringSubmatch(line)
		if parts == nil || !ended || parts[1] == "kind" && !kindWords.MatchString(parts[3]) {
			continue
		}
		x := searchedLine{sort: parts[1], name: parts[2], mark: parts[len(parts)-1] != ""}
		for _, word := range strings.Fields(parts[3]) {
			if n, err := strconv.Atoi(word); err == nil {
				x.numbers = append(x.numbers, n)
			}
		}
		return x
	}
	return searchedLine{code: impl.FtSyntax}
}

// rangesOf returns the least and the greatest of the numbers of a line.
func rangesOf(x searchedLine) [][2]int {
	switch x.sort {
	case "kind":
		return [][2]int{{1, 9}, {0, 9}, {1, 4}, {0, 4}}
	case "terrain":
		return slices.Concat([][2]int{{-3, 3}, {0, 3}}, slices.Repeat([][2]int{{0, 9}}, len(x.numbers)-2))
	}
	return map[string][][2]int{"stack": {{1, 4}}, "river": {{0, 9}}, "road": {{1, 9}}, "supply": {{0, 20}}, "turns": {{1, 30}}}[x.sort]
}

var namePattern = regexp.MustCompile(`^[a-z]{1,8}$`)

// codeOf finds the code of a line of a form after earlier lines. A terrain needs
// a number of costs; a negative one stands for any.
func codeOf(x searchedLine, earlier []searchedLine, costs int) int {
	same := 0
	for _, y := range earlier {
		if y.code != 0 || y.sort != x.sort {
			continue
		}
		same++
		if y.name == x.name {
			return impl.FtTwice
		}
	}
	most := map[string]int{"kind": 4, "terrain": 6}[x.sort]
	if most > 0 && !namePattern.MatchString(x.name) {
		return impl.FtTwice
	}
	for i, limits := range rangesOf(x) {
		if x.numbers[i] < limits[0] || x.numbers[i] > limits[1] {
			return impl.FtRange
		}
	}
	if most > 0 && same >= most || x.sort == "terrain" && costs >= 0 && len(x.numbers)-2 != costs {
		return impl.FtRange
	}
	return 0
}

// searchedLines finds the codes of all lines of a free text: those of kinds
// first, and the others as soon as the kinds are counted.
func searchedLines(s string) []searchedLine {
	var list []searchedLine
	for line := range strings.Lines(s) {
		list = append(list, searchedLineOf(strings.TrimSuffix(line, "\n"), strings.HasSuffix(line, "\n")))
	}
	kinds := 0
	for i, x := range list {
		if x.sort == "kind" {
			list[i].code = codeOf(x, list[:i], -1)
			if list[i].code == 0 {
				kinds++
			}
		}
	}
	for i, x := range list {
		if x.sort != "kind" && x.sort != "" {
			list[i].code = codeOf(x, list[:i], kinds)
		}
	}
	return list
}

// faultsBySearch spells the faults of a free text.
func faultsBySearch(s string) string {
	var at, codes []int
	sorts := map[string]bool{}
	lines := searchedLines(s)
	for i, x := range lines {
		sorts[x.sort] = true
		if x.code != 0 {
			at, codes = append(at, i+1), append(codes, x.code)
		}
	}
	if len(at) == 0 && !(sorts["kind"] && sorts["terrain"]) {
		at, codes = []int{len(lines) + 1}, []int{impl.FtMissing}
	}
	return spelledFaults(at, codes)
}

// rulesBySearch returns the rules of the lines of a free text without a fault.
func rulesBySearch(s string) impl.Rules {
	r := impl.Rules{Stack: 2, Road: 1, Supply: 5, Turns: 10}
	limits := map[string]*int{"stack": &r.Stack, "river": &r.River, "road": &r.Road, "supply": &r.Supply, "turns": &r.Turns}
	for _, x := range searchedLines(s) {
		switch n := x.numbers; x.sort {
		case "":
		case "kind":
			r.Kinds = append(r.Kinds, impl.Kind{Name: x.name, Strength: n[0], Moves: n[1], Steps: n[2], View: n[3], Zone: x.mark})
		case "terrain":
			r.Terrains = append(r.Terrains, impl.Terrain{Name: x.name, Shift: n[0], Height: n[1], Cost: n[2:], Blocks: x.mark})
		default:
			*limits[x.sort] = n[0]
		}
	}
	return r
}
