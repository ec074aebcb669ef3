package tests

import (
	"fmt"
	"math"
	"slices"
	"testing"

	"loop.example/g00886/impl"
)

// invalidTables returns tables with one fault each, and tables without anything.
func invalidTables() []impl.CombatTable {
	list := []impl.CombatTable{
		{}, {Dice: 1}, {Dice: 2}, {Columns: someOdds(1)}, {Columns: someOdds(1), Dice: 1},
		oneDie(), oneDie(make([]impl.Odds, 9)...), oneDie(odds(1, 2), odds(2, 4)), oneDie(odds(2, 1), odds(1, 1)),
		oneDie(odds(1, 2), odds(1, 2)), sizedTable(1, 11), sizedTable(2, 6), sizedTable(3, 16), sizedTable(0, 1),
		sizedTable(1, 5), sizedTable(1, 7), sizedTable(2, 10), sizedTable(2, 12), sizedTable(-1, 6), sizedTable(math.MaxInt, 6),
		sizedTable(math.MinInt, 6), sizedTable(math.MaxInt, 0), sizedTable(math.MinInt, 0),
	}
	for _, n := range append([]int{0, 21}, outside...) {
		num, den := copyTable(variedTable(3, 1)), copyTable(variedTable(3, 1))
		num.Columns[2].Num, den.Columns[0].Den = n, n
		list = append(list, num, den)
	}
	for _, n := range append([]int{8}, outside...) {
		first, last := variedTable(3, 1), variedTable(3, 2)
		first.Results[0][0], last.Results[10][2] = n, n
		list = append(list, first, last)
	}
	for _, row := range [][]int{nil, {}, {0, 0}, {0, 0, 0, 0}} {
		first, last := variedTable(3, 1), variedTable(3, 2)
		first.Results[0], last.Results[10] = row, row
		list = append(list, first, last)
	}
	return list
}

// wantColumnCallsFail requires every function with a column to fail.
func wantColumnCallsFail(t *testing.T, x impl.CombatTable, column int) {
	t.Helper()
	what := fmt.Sprint(" of column ", column, " of ", x)
	for _, shift := range []int{-10, -1, 0, 1, 10} {
		moved, ok := impl.ShiftColumn(x, column, shift)
		wantZero(t, fmt.Sprint("ShiftColumn by ", shift, what), ok, moved)
	}
	for roll := range 14 {
		result, ok := impl.ResultAt(x, roll, column)
		wantZero(t, fmt.Sprint("ResultAt ", roll, what), ok, result)
	}
	counts, ok := impl.CountResults(x, column)
	wantZero(t, "CountResults"+what, ok, counts)
	total, n, ok := impl.MeanScore(x, column)
	wantZero(t, "MeanScore"+what, ok, total, n)
}

func TestInvalidTables(t *testing.T) {
	for _, x := range invalidTables() {
		if impl.IsCombatTable(x) {
			t.Errorf("IsCombatTable of %v", x)
		}
		for _, strengths := range [][2]int{{0, 0}, {1, 0}, {0, 1}, {3, 2}, {1000, 1}, {1000, 1000}} {
			column, ok := impl.ColumnFor(x, strengths[0], strengths[1])
			wantZero(t, fmt.Sprint("ColumnFor ", strengths, " of ", x), ok, column)
		}
		is, ok := impl.IsMonotone(x)
		wantZero(t, fmt.Sprint("IsMonotone of ", x), ok, is)
		text, ok := impl.TableText(x)
		wantZero(t, fmt.Sprint("TableText of ", x), ok, text)
		for column := -1; column <= 9; column++ {
			wantColumnCallsFail(t, x, column)
		}
	}
}

func TestInvalidColumns(t *testing.T) {
	for _, x := range allTables() {
		n := len(x.Columns)
		for _, column := range append([]int{n, n + 1, -n, -2}, outside...) {
			wantColumnCallsFail(t, x, column)
		}
	}
}

// Strengths meet the limits exactly and pass them by one and by far.
func TestInvalidStrengths(t *testing.T) {
	for _, x := range allTables() {
		for _, bad := range append([]int{1001, 1002, -1000, 1 << 62, -1 << 62}, outside...) {
			for _, other := range append([]int{0, 1, 1000, 1001}, outside...) {
				column, ok := impl.ColumnFor(x, bad, other)
				wantZero(t, fmt.Sprint("ColumnFor ", bad, other), ok, column)
				column, ok = impl.ColumnFor(x, other, bad)
				wantZero(t, fmt.Sprint("ColumnFor ", other, bad), ok, column)
			}
		}
		for _, good := range []int{0, 1, 999, 1000} {
			columnFor(t, x, good, 1000)
			columnFor(t, x, 1000, good)
			columnFor(t, x, good, 0)
			columnFor(t, x, 0, good)
		}
	}
}

// Shifts meet the limits exactly and pass them by one and by far, also where
// the last column would be reached anyway.
func TestInvalidShifts(t *testing.T) {
	for _, x := range allTables() {
		for column := range x.Columns {
			for _, shift := range []int{math.MinInt, math.MinInt + 1, -12, -11, 11, 12, math.MaxInt - 1, math.MaxInt} {
				moved, ok := impl.ShiftColumn(x, column, shift)
				wantZero(t, fmt.Sprint("ShiftColumn ", column, " by ", shift), ok, moved)
			}
			for shift, want := range map[int]int{-10: 0, 10: len(x.Columns) - 1} {
				if moved, ok := impl.ShiftColumn(x, column, shift); !ok || moved != want {
					t.Errorf("ShiftColumn %d by %d: %d, %v, want %d", column, shift, moved, ok, want)
				}
			}
		}
	}
}

func TestInvalidRolls(t *testing.T) {
	for _, x := range allTables() {
		for column := range x.Columns {
			for _, roll := range append([]int{0, x.Dice - 1, 6*x.Dice + 1, 13, math.MinInt / 2, math.MaxInt / 2}, outside...) {
				result, ok := impl.ResultAt(x, roll, column)
				wantZero(t, fmt.Sprint("ResultAt ", roll, " of dice ", x.Dice), ok, result)
			}
		}
	}
}

// tableWithSpare returns a table all of whose slices have spare capacity, with
// values behind their lengths that would be valid.
func tableWithSpare(x impl.CombatTable) impl.CombatTable {
	x = copyTable(x)
	for k, row := range x.Results {
		x.Results[k] = slices.Concat(row, []int{1, 7, 0, 1, 2, 3, 4, 5, 6, 7})[:len(row)]
	}
	x.Results = slices.Concat(x.Results, [][]int{{3}, {1, 2}, {1, 2, 3}})[:len(x.Results)]
	x.Columns = slices.Concat(x.Columns, []impl.Odds{odds(20, 1), odds(1, 1)})[:len(x.Columns)]
	return x
}

// wholeTable spells a table with all that lies behind its slices.
func wholeTable(x impl.CombatTable) string {
	text := fmt.Sprintln(x.Dice, x.Columns[:cap(x.Columns)], len(x.Columns), len(x.Results))
	for _, row := range x.Results[:cap(x.Results)] {
		text += fmt.Sprintln(row[:cap(row)], len(row))
	}
	return text
}

func overwriteOdds(list []impl.Odds) {
	list = list[:cap(list)]
	for i := range list {
		list[i] = odds(-99, -99)
	}
}

func overwriteTable(x impl.CombatTable) {
	overwriteOdds(x.Columns)
	overwriteLists(x.Results)
}

// callAllOnTable calls every function of the chapter, and overwrites and extends
// the results.
func callAllOnTable(x impl.CombatTable) {
	impl.IsCombatTable(x)
	impl.IsMonotone(x)
	for _, n := range []int{-1, 0, 1, 2, 7, 8, 12, 13, 1000} {
		impl.ColumnFor(x, n, 3)
		impl.ColumnFor(x, 3, n)
		for column := -1; column <= 8; column++ {
			impl.ShiftColumn(x, column, n)
			impl.ResultAt(x, n, column)
			impl.MeanScore(x, column)
			counts, _ := impl.CountResults(x, column)
			overwrite(counts)
		}
	}
	text, _ := impl.TableText(x)
	read, _ := impl.ParseTable(text)
	overwriteTable(read)
}

func TestTablesAreNotChanged(t *testing.T) {
	for _, x := range append(allTables(), invalidTables()...) {
		given := tableWithSpare(x)
		kept := wholeTable(given)
		callAllOnTable(given)
		if now := wholeTable(given); now != kept {
			t.Fatalf("%s is changed to %s", kept, now)
		}
	}
}

// What lies behind the slices of a table plays no part in a result.
func TestSpareCapacityOfTablesIsNotRead(t *testing.T) {
	for _, x := range allTables() {
		given := tableWithSpare(x)
		if !impl.IsCombatTable(given) || tableTextOf(t, given) != tableTextOf(t, x) {
			t.Fatalf("%v with spare capacity is another table", x)
		}
		if columnFor(t, given, 1000, 1) != len(x.Columns)-1 {
			t.Fatalf("ColumnFor of %v with spare capacity has another last column", x)
		}
		is, _ := impl.IsMonotone(x)
		if is2, ok := impl.IsMonotone(given); !ok || is2 != is {
			t.Fatalf("IsMonotone of %v with spare capacity: %v, %v", x, is2, ok)
		}
		wantColumnCallsFail(t, given, len(x.Columns))
	}
	// These tables would be valid with what lies behind their slices.
	rows, row, columns := variedTable(3, 1), variedTable(3, 1), variedTable(3, 1)
	rows.Results = rows.Results[:5]
	row.Results[2] = row.Results[2][:2]
	columns.Columns = columns.Columns[:2]
	for _, x := range []impl.CombatTable{rows, row, columns} {
		if impl.IsCombatTable(x) {
			t.Errorf("IsCombatTable of %v", x)
		}
	}
}

func readTable(t *testing.T, s string) impl.CombatTable {
	t.Helper()
	x, ok := impl.ParseTable(s)
	if !ok {
		t.Fatalf("ParseTable(%q) fails", s)
	}
	return x
}

// A table that is read keeps its other slices if one of them is overwritten and
// extended, and so does a table that is read from the same text.
func TestSlicesOfReadTablesAreApart(t *testing.T) {
	for _, want := range append(allTables(), sameEverywhere(8, 2, 3)) {
		text := tableTextOf(t, want)
		for n := range want.Results {
			x, other := readTable(t, text), readTable(t, text)
			overwrite(x.Results[n])
			for k, row := range x.Results {
				if k != n && !slices.Equal(row, want.Results[k]) {
					t.Fatalf("row %d of %q changes with row %d: %v", k, text, n, row)
				}
			}
			overwriteTable(x)
			if !sameTable(other, want) || !sameTable(readTable(t, text), want) {
				t.Fatalf("another table read from %q changes with one of them", text)
			}
		}
	}
}

func TestCountsAreNew(t *testing.T) {
	for _, x := range allTables() {
		for column := range x.Columns {
			first, _ := impl.CountResults(x, column)
			second, _ := impl.CountResults(x, column)
			want := slices.Clone(first)
			overwrite(first)
			third, ok := impl.CountResults(x, column)
			if !ok || len(want) != 8 || !slices.Equal(second, want) || !slices.Equal(third, want) {
				t.Fatalf("CountResults: %v and %v after the first result was overwritten, want %v", second, third, want)
			}
		}
	}
}
