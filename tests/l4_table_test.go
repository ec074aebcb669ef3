package tests

import (
	"math"
	"testing"

	"loop.example/g00886/impl"
)

func TestTableLimits(t *testing.T) {
	if impl.MaxColumns != 8 || impl.MaxOdds != 20 || impl.MaxForce != 1000 {
		t.Error(impl.MaxColumns, impl.MaxOdds, impl.MaxForce)
	}
	codes := []int{
		impl.RsNone, impl.RsDefenderBack, impl.RsDefenderLoss, impl.RsDefenderGone,
		impl.RsAttackerBack, impl.RsAttackerLoss, impl.RsAttackerGone, impl.RsExchange,
	}
	for i, code := range codes {
		if code != i {
			t.Errorf("the result %d has the code %d", i, code)
		}
	}
}

func TestIsCombatTable(t *testing.T) {
	for _, x := range allTables() {
		if !impl.IsCombatTable(x) {
			t.Errorf("%v is not valid", x)
		}
	}
	if impl.IsCombatTable(impl.CombatTable{}) {
		t.Error("an empty table is valid")
	}
}

// oneDie returns a table with the given odds, all of whose results are RsNone.
func oneDie(columns ...impl.Odds) impl.CombatTable {
	x := impl.CombatTable{Columns: columns, Dice: 1}
	for range 6 {
		x.Results = append(x.Results, make([]int, len(columns)))
	}
	return x
}

func TestNumberOfColumns(t *testing.T) {
	for n := range 21 {
		var columns []impl.Odds
		for num := 1; num <= n; num++ {
			columns = append(columns, odds(num, 7))
		}
		if got := impl.IsCombatTable(oneDie(columns...)); got != (1 <= n && n <= 8) {
			t.Errorf("IsCombatTable with %d columns is %v", n, got)
		}
	}
}

// Num and Den meet their limits exactly and pass them by one and by far.
func TestLimitsOfOdds(t *testing.T) {
	numbers := []int{math.MinInt, math.MinInt + 1, -20, math.MaxInt - 1, math.MaxInt, 1 << 32, 1 << 62}
	for n := -3; n <= 24; n++ {
		numbers = append(numbers, n)
	}
	for _, num := range numbers {
		for _, den := range numbers {
			want := 1 <= num && num <= 20 && 1 <= den && den <= 20
			if got := impl.IsCombatTable(oneDie(odds(num, den))); got != want {
				t.Errorf("IsCombatTable with the odds %d/%d is %v", num, den, got)
			}
		}
	}
}

// Each column is changed alone; quotients increase also with the invalid odds
// at both ends.
func TestLimitsOfOddsInEachColumn(t *testing.T) {
	for i := range 8 {
		for _, n := range []int{math.MinInt, -1, 0, 21, math.MaxInt} {
			x, y := copyTable(variedTable(8, 2)), copyTable(variedTable(8, 2))
			x.Columns[i].Num, y.Columns[i].Den = n, n
			if impl.IsCombatTable(x) || impl.IsCombatTable(y) {
				t.Errorf("IsCombatTable with %v and with %v", x.Columns, y.Columns)
			}
		}
	}
	for _, columns := range [][]impl.Odds{
		{odds(0, 1), odds(1, 1)}, {odds(1, 1), odds(21, 1)}, {odds(1, 21), odds(1, 1)}, {odds(-1, 2), odds(1, 2)},
		{odds(-2, -1), odds(3, 1)}, {odds(1, 2), odds(-1, -1)}, {odds(1, 2), odds(1, 0)},
	} {
		if impl.IsCombatTable(oneDie(columns...)) {
			t.Errorf("IsCombatTable with the odds %v", columns)
		}
	}
}

// Every pair of odds is compared by exact quotients.
func TestQuotientsIncrease(t *testing.T) {
	var all []impl.Odds
	for num := 1; num <= 20; num++ {
		for den := 1; den <= 20; den++ {
			all = append(all, odds(num, den))
		}
	}
	for _, x := range all {
		for _, y := range all {
			want := quotient(x).Cmp(quotient(y)) < 0
			if got := impl.IsCombatTable(oneDie(x, y)); got != want {
				t.Fatalf("IsCombatTable with the odds %v and %v is %v", x, y, got)
			}
		}
	}
}

// Quotients are equal, in the same or in other terms, or fall in one place.
func TestQuotientsIncreaseEverywhere(t *testing.T) {
	cases := []struct {
		columns []impl.Odds
		want    bool
	}{
		{[]impl.Odds{odds(1, 3), odds(1, 2), odds(2, 3)}, true},
		{[]impl.Odds{odds(19, 20), odds(1, 1), odds(20, 19)}, true},
		{[]impl.Odds{odds(18, 19), odds(19, 20), odds(20, 20)}, true},
		{[]impl.Odds{odds(1, 2), odds(2, 4), odds(2, 1)}, false},
		{[]impl.Odds{odds(1, 3), odds(1, 2), odds(10, 20)}, false},
		{[]impl.Odds{odds(1, 2), odds(1, 2), odds(2, 1)}, false},
		{[]impl.Odds{odds(1, 1), odds(20, 20), odds(2, 1)}, false},
		{[]impl.Odds{odds(1, 3), odds(4, 2), odds(2, 1)}, false},
		{[]impl.Odds{odds(1, 2), odds(1, 3), odds(2, 1)}, false},
		{[]impl.Odds{odds(1, 3), odds(2, 1), odds(3, 2)}, false},
		{[]impl.Odds{odds(1, 3), odds(1, 1), odds(1, 2)}, false},
		{[]impl.Odds{odds(3, 1), odds(2, 1), odds(1, 1)}, false},
	}
	for _, c := range cases {
		if got := impl.IsCombatTable(oneDie(c.columns...)); got != c.want {
			t.Errorf("IsCombatTable with the odds %v is %v", c.columns, got)
		}
	}
	for i := 1; i < 8; i++ {
		equal, falling := copyTable(variedTable(8, 1)), copyTable(variedTable(8, 1))
		equal.Columns[i] = equal.Columns[i-1]
		falling.Columns[i], falling.Columns[i-1] = falling.Columns[i-1], falling.Columns[i]
		if impl.IsCombatTable(equal) || impl.IsCombatTable(falling) {
			t.Errorf("IsCombatTable with %v and with %v", equal.Columns, falling.Columns)
		}
	}
}

// sizedTable returns a table with numbers of dice and rows that may not be
// valid.
func sizedTable(dice, rows int) impl.CombatTable {
	x := impl.CombatTable{Columns: someOdds(2), Dice: dice}
	for range rows {
		x.Results = append(x.Results, []int{0, 1})
	}
	return x
}

func TestDiceAndRowsOfTables(t *testing.T) {
	for _, dice := range []int{math.MinInt, math.MinInt + 1, -2, -1, 0, 1, 2, 3, 4, 1 << 32, math.MaxInt - 1, math.MaxInt} {
		for rows := range 25 {
			want := dice == 1 && rows == 6 || dice == 2 && rows == 11
			if got := impl.IsCombatTable(sizedTable(dice, rows)); got != want {
				t.Errorf("IsCombatTable with %d dice and %d rows is %v", dice, rows, got)
			}
		}
	}
}

func TestLengthOfResultRows(t *testing.T) {
	for _, x := range allTables() {
		for k := range x.Results {
			for n := range 11 {
				changed := copyTable(x)
				changed.Results[k] = make([]int, n)
				if got := impl.IsCombatTable(changed); got != (n == len(x.Columns)) {
					t.Errorf("IsCombatTable with %d results in row %d and %d columns is %v", n, k, len(x.Columns), got)
				}
			}
			changed := copyTable(x)
			changed.Results[k] = nil
			if impl.IsCombatTable(changed) {
				t.Errorf("IsCombatTable without row %d", k)
			}
		}
	}
}

// Each result meets its limits exactly and passes them by one and by far.
func TestResultsOfTables(t *testing.T) {
	numbers := []int{math.MinInt, math.MinInt + 1, math.MaxInt - 1, math.MaxInt, 256, 1 << 32}
	for n := -2; n <= 10; n++ {
		numbers = append(numbers, n)
	}
	for _, x := range allTables() {
		for k, row := range x.Results {
			for column := range row {
				for _, n := range numbers {
					changed := copyTable(x)
					changed.Results[k][column] = n
					if got := impl.IsCombatTable(changed); got != (0 <= n && n <= 7) {
						t.Fatalf("IsCombatTable with the result %d is %v", n, got)
					}
				}
			}
		}
	}
}
