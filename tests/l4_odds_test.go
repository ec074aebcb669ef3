package tests

import (
	"fmt"
	"slices"
	"testing"

	"loop.example/g00886/impl"
)

func columnFor(t *testing.T, x impl.CombatTable, attack, defence int) int {
	t.Helper()
	column, ok := impl.ColumnFor(x, attack, defence)
	if !ok {
		t.Fatalf("ColumnFor %d and %d of %v fails", attack, defence, x.Columns)
	}
	return column
}

// The odds of the example are 1/2, 1/1 and 2/1.
func TestColumnForExamples(t *testing.T) {
	cases := []struct {
		attack, defence, want int
	}{
		{3, 2, 1},
		// Quotients met exactly, in several terms, and missed by little.
		{1, 2, 0}, {2, 4, 0}, {1, 1, 1}, {7, 7, 1}, {2, 1, 2}, {8, 4, 2}, {1000, 1000, 1}, {1000, 500, 2},
		{499, 500, 0}, {501, 500, 1}, {999, 500, 1}, {999, 1000, 0}, {1000, 999, 1}, {1000, 501, 1}, {999, 499, 2},
		// Below the first column.
		{1, 3, 0}, {1, 1000, 0}, {499, 1000, 0}, {0, 1, 0}, {0, 1000, 0},
		// Without a defence.
		{1, 0, 2}, {3, 0, 2}, {1000, 0, 2}, {0, 0, 2},
		// Above the last column.
		{3, 1, 2}, {1000, 1, 2},
	}
	for _, c := range cases {
		if got := columnFor(t, exampleTable(), c.attack, c.defence); got != c.want {
			t.Errorf("ColumnFor %d and %d: %d, want %d", c.attack, c.defence, got, c.want)
		}
	}
}

// someForces are strengths that meet and miss the quotients of the tables.
func someForces() []int {
	list := []int{95, 100, 190, 380, 399, 400, 401, 499, 500, 501, 950, 998, 999, 1000}
	for n := range 61 {
		list = append(list, n)
	}
	return list
}

func TestColumnFor(t *testing.T) {
	for _, x := range allTables() {
		for _, attack := range someForces() {
			for _, defence := range someForces() {
				want := columnBySearch(x, attack, defence)
				if got := columnFor(t, x, attack, defence); got != want {
					t.Fatalf("ColumnFor %d and %d of %v: %d, want %d", attack, defence, x.Columns, got, want)
				}
			}
		}
	}
}

// Each of the odds is a quotient of strengths that has its column, and the
// column before with a little less.
func TestColumnForOddsThemselves(t *testing.T) {
	for _, x := range variedTables() {
		for column, o := range x.Columns {
			for times := 1; times <= 50; times++ {
				if got := columnFor(t, x, times*o.Num, times*o.Den); got != column {
					t.Fatalf("ColumnFor %d times %v of %v: %d, want %d", times, o, x.Columns, got, column)
				}
			}
			if got := columnFor(t, x, 50*o.Num-1, 50*o.Den); got != max(column-1, 0) {
				t.Fatalf("ColumnFor a little less than %v of %v: %d, want %d", o, x.Columns, got, max(column-1, 0))
			}
		}
	}
}

func TestColumnForWithoutDefence(t *testing.T) {
	for _, x := range allTables() {
		for attack := range 1001 {
			if got := columnFor(t, x, attack, 0); got != len(x.Columns)-1 {
				t.Fatalf("ColumnFor %d and 0 of %v: %d", attack, x.Columns, got)
			}
		}
		for defence := 1; defence <= 1000; defence++ {
			if got := columnFor(t, x, 0, defence); got != 0 {
				t.Fatalf("ColumnFor 0 and %d of %v: %d", defence, x.Columns, got)
			}
		}
	}
}

// A greater attack has no lesser column, and a greater defence no greater one.
func TestColumnForGreaterStrengths(t *testing.T) {
	for _, x := range allTables() {
		for _, other := range []int{0, 1, 2, 3, 7, 19, 20, 50, 333, 999, 1000} {
			rising, falling := 0, len(x.Columns)-1
			for n := range 1001 {
				byAttack, byDefence := columnFor(t, x, n, other), columnFor(t, x, other, n)
				if byAttack < rising || byDefence > falling {
					t.Fatalf("ColumnFor %d and %d of %v: %d after %d, and the other way round: %d after %d",
						n, other, x.Columns, byAttack, rising, byDefence, falling)
				}
				rising, falling = byAttack, byDefence
			}
		}
	}
}

func TestShiftColumnExamples(t *testing.T) {
	cases := []struct {
		column, shift, want int
	}{
		{0, 0, 0}, {1, 0, 1}, {2, 0, 2}, {0, 1, 1}, {0, 2, 2}, {0, 3, 2}, {1, 1, 2}, {1, 2, 2}, {2, 1, 2}, {2, 10, 2},
		{0, 10, 2}, {0, -1, 0}, {0, -10, 0}, {1, -1, 0}, {1, -2, 0}, {1, -3, 0}, {2, -1, 1}, {2, -2, 0}, {2, -10, 0},
	}
	for _, c := range cases {
		if got, ok := impl.ShiftColumn(exampleTable(), c.column, c.shift); !ok || got != c.want {
			t.Errorf("ShiftColumn %d by %d: %d, %v, want %d", c.column, c.shift, got, ok, c.want)
		}
	}
}

// A shift is made column by column and stops at both ends.
func TestShiftColumn(t *testing.T) {
	for _, x := range allTables() {
		last := len(x.Columns) - 1
		for column := range x.Columns {
			up, down := column, column
			for n := range 11 {
				got, ok := impl.ShiftColumn(x, column, n)
				got2, ok2 := impl.ShiftColumn(x, column, -n)
				if !ok || !ok2 || got != up || got2 != down {
					t.Fatalf("ShiftColumn %d of %d by %d and back: %d, %d, want %d, %d", column, last+1, n, got, got2, up, down)
				}
				if up < last {
					up++
				}
				if down > 0 {
					down--
				}
			}
		}
	}
}

func TestResultAtExamples(t *testing.T) {
	one := exampleTable()
	two := impl.CombatTable{Columns: someOdds(1), Dice: 2,
		Results: [][]int{{6}, {5}, {4}, {4}, {0}, {7}, {7}, {1}, {1}, {2}, {3}}}
	cases := []struct {
		table              impl.CombatTable
		roll, column, want int
	}{
		{one, 1, 0, impl.RsAttackerGone}, {one, 1, 2, impl.RsAttackerBack}, {one, 3, 1, impl.RsNone},
		{one, 3, 2, impl.RsExchange}, {one, 6, 0, impl.RsDefenderBack}, {one, 6, 2, impl.RsDefenderGone},
		{two, 2, 0, impl.RsAttackerGone}, {two, 3, 0, impl.RsAttackerLoss}, {two, 7, 0, impl.RsExchange},
		{two, 11, 0, impl.RsDefenderLoss}, {two, 12, 0, impl.RsDefenderGone},
	}
	for _, c := range cases {
		if got, ok := impl.ResultAt(c.table, c.roll, c.column); !ok || got != c.want {
			t.Errorf("ResultAt %d and %d: %d, %v, want %d", c.roll, c.column, got, ok, c.want)
		}
	}
}

// The least sum has the first row, and the greatest one the last row.
func TestResultAt(t *testing.T) {
	for _, x := range allTables() {
		for column := range x.Columns {
			for roll := -15; roll <= 30; roll++ {
				got, ok := impl.ResultAt(x, roll, column)
				if roll < x.Dice || roll > 6*x.Dice {
					wantZero(t, fmt.Sprint("ResultAt ", roll, " of dice ", x.Dice), ok, got)
				} else if want := x.Results[roll-x.Dice][column]; !ok || got != want {
					t.Fatalf("ResultAt %d and %d of %v: %d, %v, want %d", roll, column, x, got, ok, want)
				}
			}
		}
	}
}

func TestScoreOf(t *testing.T) {
	want := map[int]int{
		impl.RsAttackerGone: -3, impl.RsAttackerLoss: -2, impl.RsAttackerBack: -1, impl.RsNone: 0,
		impl.RsExchange: 0, impl.RsDefenderBack: 1, impl.RsDefenderLoss: 2, impl.RsDefenderGone: 3,
	}
	for result := range 8 {
		score, ok := impl.ScoreOf(result)
		if !ok || score != want[result] || score != scores[result] {
			t.Errorf("ScoreOf %d: %d, %v, want %d", result, score, ok, want[result])
		}
	}
	for _, result := range append([]int{8, 9, -3, 256}, outside...) {
		score, ok := impl.ScoreOf(result)
		wantZero(t, fmt.Sprint("ScoreOf ", result), ok, score)
	}
}

func wantMonotone(t *testing.T, x impl.CombatTable, want bool) {
	t.Helper()
	if is, ok := impl.IsMonotone(x); !ok || is != want {
		t.Errorf("IsMonotone of %v: %v, %v", x.Results, is, ok)
	}
}

func TestIsMonotoneExamples(t *testing.T) {
	wantMonotone(t, exampleTable(), true)
	for columns := 1; columns <= 8; columns++ {
		for result := range 8 {
			wantMonotone(t, sameEverywhere(columns, 1, result), true)
			wantMonotone(t, sameEverywhere(columns, 2, result), true)
		}
	}
	table := func(rows ...[]int) impl.CombatTable {
		return impl.CombatTable{Columns: someOdds(len(rows[0])), Dice: 1, Results: rows}
	}
	// None and an exchange have the same score, whichever comes first.
	wantMonotone(t, table([]int{7, 0}, []int{0, 7}, []int{7, 7}, []int{0, 0}, []int{0, 7}, []int{7, 0}), true)
	// A lower score along a row, in the middle, the first and the last row,
	// while each column rises.
	wantMonotone(t, table([]int{4, 0}, []int{0, 1}, []int{2, 1}, []int{2, 2}, []int{2, 3}, []int{3, 3}), false)
	wantMonotone(t, table([]int{0, 4}, []int{0, 1}, []int{1, 1}, []int{2, 2}, []int{2, 3}, []int{3, 3}), false)
	wantMonotone(t, table([]int{4, 0}, []int{0, 1}, []int{1, 1}, []int{2, 2}, []int{2, 2}, []int{3, 2}), false)
	// A lower score along a column, at its beginning, in the middle and at its
	// end, while each row rises.
	wantMonotone(t, table([]int{0, 1}, []int{4, 1}, []int{0, 1}, []int{1, 2}, []int{2, 2}, []int{3, 3}), false)
	wantMonotone(t, table([]int{4, 0}, []int{0, 2}, []int{1, 1}, []int{1, 2}, []int{2, 2}, []int{3, 3}), false)
	wantMonotone(t, table([]int{4, 0}, []int{0, 1}, []int{1, 1}, []int{1, 2}, []int{2, 3}, []int{2, 2}), false)
	// The codes rise, but not the scores, and the other way round.
	wantMonotone(t, table([]int{0}, []int{1}, []int{2}, []int{3}, []int{4}, []int{5}), false)
	wantMonotone(t, table([]int{6}, []int{5}, []int{4}, []int{0}, []int{1}, []int{2}), true)
	wantMonotone(t, table([]int{3}, []int{3}, []int{3}, []int{3}, []int{3}, []int{7}), false)
}

// risingTable returns a table whose scores rise slowly along rows and columns.
func risingTable(columns, dice int) impl.CombatTable {
	rising := []int{6, 5, 4, 0, 7, 1, 2, 3}
	x := sameEverywhere(columns, dice, 0)
	for k, row := range x.Results {
		for column := range row {
			row[column] = rising[min((k+column)/2, 7)]
		}
	}
	return x
}

// Each single result of tables of all sizes is changed in every way.
func TestIsMonotoneWithOneResultChanged(t *testing.T) {
	tried := map[bool]int{}
	for columns := 1; columns <= 8; columns++ {
		for _, x := range []impl.CombatTable{risingTable(columns, 1), risingTable(columns, 2)} {
			wantMonotone(t, x, true)
			for k, row := range x.Results {
				for column := range row {
					for result := range 8 {
						changed := copyTable(x)
						changed.Results[k][column] = result
						want := monotoneBySearch(changed)
						wantMonotone(t, changed, want)
						tried[want]++
					}
				}
			}
		}
	}
	if tried[true] == 0 || tried[false] == 0 {
		t.Error("tables that are monotone or not were not both tried:", tried)
	}
}

func TestIsMonotoneOfVariedTables(t *testing.T) {
	for _, x := range variedTables() {
		wantMonotone(t, x, monotoneBySearch(x))
	}
}

func TestCountResultsExamples(t *testing.T) {
	one, two := exampleTable(), sizedTable(2, 11)
	for k, result := range []int{0, 1, 2, 3, 4, 5, 6, 7, 0, 1, 2} {
		two.Results[k] = []int{result, 5}
	}
	cases := []struct {
		table  impl.CombatTable
		column int
		want   []int
	}{
		{one, 0, []int{1, 1, 0, 0, 1, 1, 1, 1}},
		{one, 1, []int{1, 1, 1, 0, 1, 1, 0, 1}},
		{one, 2, []int{1, 1, 1, 1, 1, 0, 0, 1}},
		{sameEverywhere(1, 1, 3), 0, []int{0, 0, 0, 6, 0, 0, 0, 0}},
		// The sums 2 to 12 have 1, 2, 3, 4, 5, 6, 5, 4, 3, 2 and 1 rolls.
		{two, 0, []int{1 + 3, 2 + 2, 3 + 1, 4, 5, 6, 5, 4}},
		{two, 1, []int{0, 0, 0, 0, 0, 36, 0, 0}},
	}
	for _, c := range cases {
		if got, ok := impl.CountResults(c.table, c.column); !ok || !slices.Equal(got, c.want) {
			t.Errorf("CountResults of column %d: %v, %v, want %v", c.column, got, ok, c.want)
		}
	}
}

// Counts and means are those of the results of all rolls.
func TestCountsAndMeansOfAllRolls(t *testing.T) {
	for _, x := range allTables() {
		for column := range x.Columns {
			counts, total := make([]int, 8), 0
			rolls := allRolls(x.Dice)
			for _, roll := range rolls {
				result, ok := impl.ResultAt(x, roll, column)
				score, ok2 := impl.ScoreOf(result)
				if !ok || !ok2 {
					t.Fatalf("no result or no score for %d and %d of %v", roll, column, x)
				}
				counts[result]++
				total += score
			}
			if got, ok := impl.CountResults(x, column); !ok || !slices.Equal(got, counts) {
				t.Fatalf("CountResults of column %d of %v: %v, %v, want %v", column, x, got, ok, counts)
			}
			if sum, n, ok := impl.MeanScore(x, column); !ok || sum != total || n != len(rolls) {
				t.Fatalf("MeanScore of column %d of %v: %d, %d, %v, want %d, %d", column, x, sum, n, ok, total, len(rolls))
			}
		}
	}
}

func TestMeanScoreExamples(t *testing.T) {
	two := sameEverywhere(2, 2, impl.RsNone)
	two.Results[0][1], two.Results[5][1], two.Results[10][1] = impl.RsAttackerGone, impl.RsDefenderLoss, impl.RsExchange
	cases := []struct {
		table          impl.CombatTable
		column, sum, n int
	}{
		{exampleTable(), 0, -3 - 2 - 1 + 1, 6},
		{exampleTable(), 1, -2 - 1 + 1 + 2, 6},
		{exampleTable(), 2, -1 + 1 + 2 + 3, 6},
		{two, 0, 0, 36},
		{two, 1, -3 + 6*2, 36},
		{sameEverywhere(3, 1, impl.RsDefenderGone), 2, 18, 6},
		{sameEverywhere(3, 1, impl.RsAttackerGone), 0, -18, 6},
		{sameEverywhere(8, 2, impl.RsDefenderGone), 7, 108, 36},
		{sameEverywhere(8, 2, impl.RsAttackerGone), 0, -108, 36},
		{sameEverywhere(1, 2, impl.RsExchange), 0, 0, 36},
	}
	for _, c := range cases {
		if sum, n, ok := impl.MeanScore(c.table, c.column); !ok || sum != c.sum || n != c.n {
			t.Errorf("MeanScore of column %d of %v: %d, %d, %v, want %d, %d", c.column, c.table.Results, sum, n, ok, c.sum, c.n)
		}
	}
}
