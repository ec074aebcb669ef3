package tests

import (
	"math/big"
	"slices"
	"testing"

	"loop.example/g00886/impl"
)

// scores[result] is the score of a result, as the document lists them.
var scores = []int{0, 1, 2, 3, -1, -2, -3, 0}

func odds(num, den int) impl.Odds {
	return impl.Odds{Num: num, Den: den}
}

// exampleTable returns a table with the odds of the document's example.
func exampleTable() impl.CombatTable {
	return impl.CombatTable{
		Columns: []impl.Odds{odds(1, 2), odds(1, 1), odds(2, 1)},
		Dice:    1,
		Results: [][]int{{6, 5, 4}, {5, 4, 0}, {4, 0, 7}, {0, 7, 1}, {7, 1, 2}, {1, 2, 3}},
	}
}

// someOdds returns up to eight odds with increasing quotients, among them the
// least and the greatest one.
func someOdds(n int) []impl.Odds {
	all := []impl.Odds{odds(1, 20), odds(2, 9), odds(10, 20), odds(19, 20), odds(20, 19), odds(6, 4), odds(3, 1), odds(20, 1)}
	return all[:n]
}

func rowsFor(dice int) int {
	if dice == 1 {
		return 6
	}
	return 11
}

// variedTable returns a table with all results, where there is room for them,
// chosen by a short rule.
func variedTable(columns, dice int) impl.CombatTable {
	t := impl.CombatTable{Columns: someOdds(columns), Dice: dice}
	for k := range rowsFor(dice) {
		row := make([]int, columns)
		for column := range row {
			row[column] = (k*k + 3*column + k*column/2) % 8
		}
		t.Results = append(t.Results, row)
	}
	return t
}

// variedTables returns tables of all sizes.
func variedTables() []impl.CombatTable {
	var list []impl.CombatTable
	for columns := 1; columns <= 8; columns++ {
		list = append(list, variedTable(columns, 1), variedTable(columns, 2))
	}
	return list
}

// allTables returns tables of all sizes and that of the example.
func allTables() []impl.CombatTable {
	return append(variedTables(), exampleTable())
}

// sameEverywhere returns a table with one result.
func sameEverywhere(columns, dice, result int) impl.CombatTable {
	t := variedTable(columns, dice)
	for _, row := range t.Results {
		for column := range row {
			row[column] = result
		}
	}
	return t
}

// allRolls returns the sum of the faces of each roll.
func allRolls(dice int) []int {
	if dice == 1 {
		return []int{1, 2, 3, 4, 5, 6}
	}
	var list []int
	for first := 1; first <= 6; first++ {
		for second := 1; second <= 6; second++ {
			list = append(list, first+second)
		}
	}
	return list
}

func quotient(o impl.Odds) *big.Rat {
	return big.NewRat(int64(o.Num), int64(o.Den))
}

// columnBySearch looks for the column from the last one on, by exact quotients.
func columnBySearch(t impl.CombatTable, attack, defence int) int {
	for column := len(t.Columns) - 1; column > 0; column-- {
		if defence == 0 || quotient(t.Columns[column]).Cmp(big.NewRat(int64(attack), int64(defence))) <= 0 {
			return column
		}
	}
	return 0
}

// monotoneBySearch sorts the scores of each row and of each column.
func monotoneBySearch(t impl.CombatTable) bool {
	columns := make([][]int, len(t.Columns))
	for _, row := range t.Results {
		var list []int
		for column, result := range row {
			list = append(list, scores[result])
			columns[column] = append(columns[column], scores[result])
		}
		if !slices.IsSorted(list) {
			return false
		}
	}
	return !slices.ContainsFunc(columns, func(list []int) bool { return !slices.IsSorted(list) })
}

func copyTable(t impl.CombatTable) impl.CombatTable {
	t.Columns = slices.Clone(t.Columns)
	t.Results = slices.Clone(t.Results)
	for k, row := range t.Results {
		t.Results[k] = slices.Clone(row)
	}
	return t
}

func sameTable(x, y impl.CombatTable) bool {
	return slices.Equal(x.Columns, y.Columns) && x.Dice == y.Dice && sameLists(x.Results, y.Results)
}

func tableTextOf(t *testing.T, table impl.CombatTable) string {
	t.Helper()
	s, ok := impl.TableText(table)
	if !ok {
		t.Fatalf("TableText of %v fails", table)
	}
	return s
}
