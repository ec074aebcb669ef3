package tests

import (
	"fmt"
	"math"
	"slices"
	"strings"
	"testing"

	"loop.example/g00886/impl"
)

func TestRulesLimits(t *testing.T) {
	if impl.MaxKinds != 4 || impl.MaxTurns != 30 {
		t.Error(impl.MaxKinds, impl.MaxTurns)
	}
}

func TestValidRules(t *testing.T) {
	for _, r := range []impl.Rules{fullRules(), exampleBoard().Rules, costRules(0, 0), costRules(9, 9, 9, 9, 9, 9, 9)} {
		if !impl.IsRules(r) {
			t.Errorf("%v are not valid", r)
		}
	}
	if impl.IsRules(impl.Rules{}) {
		t.Error("empty rules are valid")
	}
}

// Each number meets its limits exactly and passes them by one and by far.
func TestNumbersOfRules(t *testing.T) {
	for _, x := range ruleNumbers() {
		numbers := []int{math.MinInt, math.MinInt + 1, math.MaxInt - 1, math.MaxInt}
		for n := x.least - 2; n <= x.greatest+2; n++ {
			numbers = append(numbers, n)
		}
		for _, n := range numbers {
			r := fullRules()
			*x.at(&r) = n
			if got := impl.IsRules(r); got != (x.least <= n && n <= x.greatest) {
				t.Errorf("IsRules with %s %d is %v", x.name, n, got)
			}
		}
	}
}

// All numbers are at their least and at their greatest together.
func TestNumbersOfRulesTogether(t *testing.T) {
	least, greatest := fullRules(), fullRules()
	for _, x := range ruleNumbers() {
		*x.at(&least), *x.at(&greatest) = x.least, x.greatest
	}
	if !impl.IsRules(least) || !impl.IsRules(greatest) {
		t.Error(impl.IsRules(least), impl.IsRules(greatest))
	}
}

func TestBoolsOfRules(t *testing.T) {
	for _, x := range []bool{false, true} {
		r := fullRules()
		for i := range r.Terrains {
			r.Terrains[i].Blocks = x
		}
		for i := range r.Kinds {
			r.Kinds[i].Zone = x
		}
		if !impl.IsRules(r) {
			t.Errorf("rules with %v everywhere are not valid", x)
		}
	}
}

// sizedRules returns rules with numbers of terrains and kinds that may be
// beyond the limits.
func sizedRules(terrains, kinds int) impl.Rules {
	r := impl.Rules{Stack: 1, Road: 1, Turns: 1}
	for i := range terrains {
		r.Terrains = append(r.Terrains, impl.Terrain{Name: string(rune('a' + i)), Cost: make([]int, kinds)})
	}
	for i := range kinds {
		r.Kinds = append(r.Kinds, impl.Kind{Name: string(rune('a' + i)), Strength: 1, Steps: 1})
	}
	return r
}

func TestNumbersOfTerrainsAndKinds(t *testing.T) {
	for terrains := range 9 {
		for kinds := range 7 {
			want := 1 <= terrains && terrains <= 6 && 1 <= kinds && kinds <= 4
			if got := impl.IsRules(sizedRules(terrains, kinds)); got != want {
				t.Errorf("IsRules with %d terrains and %d kinds is %v", terrains, kinds, got)
			}
		}
	}
}

func TestLengthOfCost(t *testing.T) {
	for terrain := range 6 {
		for n := range 7 {
			r := fullRules()
			r.Terrains[terrain].Cost = make([]int, n)
			if got := impl.IsRules(r); got != (n == 4) {
				t.Errorf("IsRules with %d costs of terrain %d and 4 kinds is %v", n, terrain, got)
			}
		}
	}
	for _, cost := range [][]int{nil, {}, {1, 1}} {
		r := costRules(1, 1)
		r.Terrains[0].Cost = cost
		if impl.IsRules(r) {
			t.Errorf("IsRules with the costs %v for one kind", cost)
		}
	}
}

func TestLengthOfNames(t *testing.T) {
	for _, at := range ruleNames() {
		for n := range 20 {
			r := fullRules()
			*at(&r) = strings.Repeat("z", n)
			if got := impl.IsRules(r); got != (1 <= n && n <= 8) {
				t.Errorf("IsRules with a name of %d letters is %v", n, got)
			}
		}
	}
}

// Each byte is a name of its own, and the first, a middle and the last one of a
// longer name.
func TestBytesOfNames(t *testing.T) {
	for _, at := range ruleNames() {
		for c := range 256 {
			b := string([]byte{byte(c)})
			for _, name := range []string{b, b + "xx", "x" + b + "x", "xx" + b, "xxxxxxx" + b} {
				r := fullRules()
				*at(&r) = name
				if got := impl.IsRules(r); got != ('a' <= c && c <= 'z') {
					t.Fatalf("IsRules with the name %q is %v", name, got)
				}
			}
		}
	}
	for _, name := range []string{"é", "ä", "ａ", "a b", "a\n", "\x00", "Plain", "one1", strings.Repeat("a", 1000)} {
		r := fullRules()
		r.Kinds[3].Name = name
		if impl.IsRules(r) {
			t.Errorf("IsRules with the name %q", name)
		}
	}
}

func TestEqualNames(t *testing.T) {
	names := ruleNames()
	for i := range names {
		for k := range names {
			r := fullRules()
			*names[i](&r) = *names[k](&r)
			// A terrain and a kind may have one name.
			want := i == k || (i < 6) != (k < 6)
			if got := impl.IsRules(r); got != want {
				t.Errorf("IsRules with the name %q twice is %v, want %v", *names[k](&r), got, want)
			}
		}
	}
}

func TestNamed(t *testing.T) {
	r := fullRules()
	for i, x := range r.Terrains {
		if n, ok := impl.TerrainNamed(r, x.Name); !ok || n != i {
			t.Errorf("TerrainNamed %q: %d, %v", x.Name, n, ok)
		}
		n, ok := impl.KindNamed(r, x.Name)
		wantZero(t, fmt.Sprintf("KindNamed %q", x.Name), ok, n)
	}
	for i, x := range r.Kinds {
		if n, ok := impl.KindNamed(r, x.Name); !ok || n != i {
			t.Errorf("KindNamed %q: %d, %v", x.Name, n, ok)
		}
		n, ok := impl.TerrainNamed(r, x.Name)
		wantZero(t, fmt.Sprintf("TerrainNamed %q", x.Name), ok, n)
	}
	for _, name := range []string{"", "p", "plai", "plains", "Plain", "plain ", " plain", "foo", "foots", "FOOT",
		"foot\n", "é", "\xff", strings.Repeat("a", 9), strings.Repeat("a", 1000)} {
		n, ok := impl.TerrainNamed(r, name)
		wantZero(t, fmt.Sprintf("TerrainNamed %q", name), ok, n)
		n, ok = impl.KindNamed(r, name)
		wantZero(t, fmt.Sprintf("KindNamed %q", name), ok, n)
	}
}

// A name of a terrain and of a kind has an index for each.
func TestNamedTwice(t *testing.T) {
	r := fullRules()
	r.Terrains[5].Name, r.Kinds[2].Name = "abcdefgh", "abcdefgh"
	n, ok := impl.TerrainNamed(r, "abcdefgh")
	k, ok2 := impl.KindNamed(r, "abcdefgh")
	if !ok || !ok2 || n != 5 || k != 2 {
		t.Error(n, ok, k, ok2)
	}
}

func TestMissingTerrains(t *testing.T) {
	for terrains := 1; terrains <= 6; terrains++ {
		r := sizedRules(terrains, 1)
		for _, m := range append(variedMaps(), patternMaps(2, 2, 6)...) {
			var want []int
			for n := terrains; n < 6; n++ {
				if slices.Contains(m.Terrain, n) {
					want = append(want, n)
				}
			}
			got, ok := impl.MissingTerrains(r, m)
			if !ok || !slices.Equal(got, want) {
				t.Fatalf("MissingTerrains of %d terrains and %v: %v, %v, want %v", terrains, m.Terrain, got, ok, want)
			}
			// A board is valid exactly if nothing is missing.
			if impl.IsBoard(impl.Board{Rules: r, Map: m}) != (len(want) == 0) {
				t.Fatalf("IsBoard with %d terrains and %v", terrains, m.Terrain)
			}
		}
	}
}

func TestMissingTerrainsInOrder(t *testing.T) {
	m := impl.Map{Width: 3, Height: 2, Terrain: []int{5, 3, 5, 0, 3, 2}}
	got, ok := impl.MissingTerrains(sizedRules(2, 3), m)
	if !ok || !slices.Equal(got, []int{2, 3, 5}) {
		t.Error(got, ok)
	}
}

// MissingTerrains of a valid map with a number beyond MaxTerrains does not
// exist: such a map is not valid.
func TestMissingTerrainsBeyondTheLimit(t *testing.T) {
	m := impl.Map{Width: 2, Height: 1, Terrain: []int{0, 6}}
	got, ok := impl.MissingTerrains(fullRules(), m)
	wantZero(t, "MissingTerrains of a map with terrain 6", ok, got)
}
