package tests

import (
	"strings"
	"testing"

	"loop.example/g00886/impl"
)

// wantNoTable fails if a text is read, or if anything but a zero table is
// returned.
func wantNoTable(t *testing.T, s string) {
	t.Helper()
	x, ok := impl.ParseTable(s)
	if ok || !sameTable(x, impl.CombatTable{}) {
		t.Errorf("ParseTable(%q) = %v, %v, want a failure", s, x, ok)
	}
}

const goodTable = "odds 1/2 1/1 dice 1\n65\n54\n40\n07\n71\n12\n"

var tableTexts = []struct {
	table impl.CombatTable
	text  string
}{
	{impl.CombatTable{Columns: []impl.Odds{odds(1, 2), odds(1, 1)}, Dice: 1,
		Results: [][]int{{6, 5}, {5, 4}, {4, 0}, {0, 7}, {7, 1}, {1, 2}}}, goodTable},
	{impl.CombatTable{Columns: []impl.Odds{odds(10, 20)}, Dice: 2,
		Results: [][]int{{0}, {1}, {2}, {3}, {4}, {5}, {6}, {7}, {0}, {0}, {0}}},
		"odds 10/20 dice 2\n0\n1\n2\n3\n4\n5\n6\n7\n0\n0\n0\n"},
	{impl.CombatTable{
		Columns: []impl.Odds{odds(1, 20), odds(1, 3), odds(2, 4), odds(1, 1), odds(20, 19), odds(2, 1), odds(10, 1), odds(20, 1)},
		Dice:    1,
		Results: [][]int{{0, 1, 2, 3, 4, 5, 6, 7}, {7, 6, 5, 4, 3, 2, 1, 0}, {0, 0, 0, 0, 0, 0, 0, 0},
			{7, 7, 7, 7, 7, 7, 7, 7}, {1, 1, 1, 1, 2, 2, 2, 2}, {3, 3, 3, 3, 6, 6, 6, 6}}},
		"odds 1/20 1/3 2/4 1/1 20/19 2/1 10/1 20/1 dice 1\n01234567\n76543210\n00000000\n77777777\n11112222\n33336666\n"},
}

func TestTableTexts(t *testing.T) {
	for _, c := range tableTexts {
		if s := tableTextOf(t, c.table); s != c.text {
			t.Errorf("TableText of %v is %q, want %q", c.table, s, c.text)
		}
		if x, ok := impl.ParseTable(c.text); !ok || !sameTable(x, c.table) {
			t.Errorf("ParseTable(%q) = %v, %v", c.text, x, ok)
		}
	}
}

func TestTableTextsAreReadBack(t *testing.T) {
	for _, x := range allTables() {
		if back, ok := impl.ParseTable(tableTextOf(t, x)); !ok || !sameTable(back, x) {
			t.Fatalf("the text of %v is read as %v, %v", x, back, ok)
		}
	}
	// All odds, one by one: two spellings of a quotient are two tables.
	for num := 1; num <= 20; num++ {
		for den := 1; den <= 20; den++ {
			x := oneDie(odds(num, den))
			if back, ok := impl.ParseTable(tableTextOf(t, x)); !ok || !sameTable(back, x) {
				t.Fatalf("the text of %v is read as %v, %v", x, back, ok)
			}
		}
	}
}

// wantNoneAfter replaces a part of a text that is read, and requires the changed
// text not to be read.
func wantNoneAfter(t *testing.T, good string, changes map[string][]string) {
	t.Helper()
	if _, ok := impl.ParseTable(good); !ok {
		t.Fatalf("%q itself is not read", good)
	}
	for part, others := range changes {
		for _, other := range others {
			bad := strings.Replace(good, part, other, 1)
			if bad == good {
				t.Fatalf("%q for %q does not change the text", other, part)
			}
			wantNoTable(t, bad)
		}
	}
}

func TestOtherFirstLines(t *testing.T) {
	wantNoneAfter(t, goodTable, map[string][]string{
		"odds": {"odd", "Odds", "oddss", "", "dice", "odds odds", "columns", " odds", "\todds", "\nodds", "#\nodds"},
		"dice": {"die", "Dice", "dices", "", "odds", "dice dice", "dice 1 dice", "rolls"},
		// Another order of parts, and parts that are missing.
		"odds 1/2 1/1 dice 1": {"dice 1 odds 1/2 1/1", "1/2 1/1 odds dice 1", "odds dice 1 1/2 1/1", "odds 1/2 1/1 1 dice",
			"odds 1/2 1/1 dice", "odds 1/2 1/1 1", "odds 1/2 1/1", "1/2 1/1 dice 1", "odds dice 1", "odds 1/2 dice 1",
			"odds 1/2 1/1 2/1 dice 1", "odds 1/1 1/2 dice 1", "odds 1/1 1/1 dice 1", "odds 1/2 2/4 dice 1", "odds dice",
			"odds", "odds ", "dice 1", "1", "", " ", "odds 1/2\n1/1 dice 1", "odds 1/2 1/1\ndice 1", "odds 1/2 1/1 dice\n1"},
		// Other blanks.
		"odds ": {"odds  ", "odds\t", "odds", "odds,", "odds\u00a0", "odds: "}, " 1/1": {"  1/1", "\t1/1", "1/1", ", 1/1", ",1/1"},
		" dice": {"  dice", "\tdice", "dice"}, "dice ": {"dice  ", "dice\t", "dice", "dice: "},
		"dice 1\n": {"dice 1 \n", "dice 1\r\n", "dice 1\t\n", "dice 1", "dice 1 ", "dice 1\n\n", "dice 1\n \n", "dice 1 1\n",
			"dice 1\x00\n"},
	})
}

func TestOtherNumbersInFirstLines(t *testing.T) {
	wantNoneAfter(t, goodTable, map[string][]string{
		"1/2": {"01/2", "1/02", "+1/2", "1/+2", "-1/2", "1/-2", "-1/-2", "1 /2", "1/ 2", "1 / 2", "1//2", "1:2", "1-2", "1\\2", "1",
			"/", "/2", "1/", "12", "1/2/", "1/2/1", "/1/2", "1/2.0", "0.5", "0x1/2", "1/0x2", "1/2_0", "1e0/2", "a/b", "0/2",
			"1/0", "-0/2", "1/21", "21/20", "1/99999999999999999999", "99999999999999999999/2", "18446744073709551617/2",
			"1/18446744073709551618", "4294967297/2", "\u0661/2", "1/2,"},
		"dice 1": {"dice 01", "dice +1", "dice -1", "dice 0", "dice 2", "dice 3", "dice 11", "dice 1.0", "dice one", "dice a",
			"dice 0x1", "dice -0", "dice 18446744073709551617", "dice 4294967297", "dice 99999999999999999999", "dice 1/1",
			"dice 9223372036854775807", "dice -9223372036854775808", "dice \u0661"},
	})
}

func TestOtherRowsOfTables(t *testing.T) {
	wantNoneAfter(t, goodTable, map[string][]string{
		// Too few and too many rows.
		"65\n": {"", "65\n65\n", "\n", "65\n\n", "\n65\n", "65"}, "40\n": {"", "40\n40\n", "\n", "40\n\n", "40"},
		"12\n": {"", "12\n12\n", "\n", "12", "12\n\n", "12\n ", "12 \n", "12\n\x00", "12\x00", "12\r\n", "12\n12", "12\n#\n"},
		// Rows that are too short or too long.
		"65": {"6", "", "655", "6 5", "65 ", " 65", "6,5", "6/5", "0065", "065"}, "07": {"7", "0", "007", "070", "0 7", "-07"},
		"07\n71": {"0\n771", "077\n1", "0771", "\n0771"},
		// Other digits.
		"54": {"84", "94", "58", "59", "5a", "a4", "-54", "5-", "+54", "5/", "5:", "5\u0664", "5\xff", "5\x00", "5."},
		"71": {"8\n1", "78", "7\n1", "7\n\n1", "RsExchange"},
	})
	two := tableTexts[1].text
	wantNoneAfter(t, two, map[string][]string{
		"2\n0\n": {"1\n0\n", "2\n", "2\n0\n0\n", "2\n0 \n", "2\n8\n", "2\n00\n", "2\n\n0\n"},
		"7\n":    {"", "8\n", "7\n7\n", "77\n", "\n", "7"},
	})
}

// The text stands alone: nothing precedes it, nothing follows, and no part of it
// suffices.
func TestTableTextsStandAlone(t *testing.T) {
	for _, c := range tableTexts {
		for _, bad := range []string{c.text + c.text, "\n" + c.text, " " + c.text, c.text + "\n", c.text + " ", "\ufeff" + c.text} {
			wantNoTable(t, bad)
		}
		for n := range len(c.text) {
			wantNoTable(t, c.text[:n])
			wantNoTable(t, c.text[n+1:])
		}
	}
}

func TestTextsOfInvalidTables(t *testing.T) {
	six, eleven := strings.Repeat("0\n", 6), strings.Repeat("0\n", 11)
	nine := "odds 1/9 2/9 3/9 4/9 5/9 6/9 7/9 8/9 9/9 dice 1\n" + strings.Repeat("000000000\n", 6)
	texts := []string{
		"", " ", "\n", "\n\n", "/", "odds", "odds\n", "odds dice\n", "odds dice 1\n", "dice 1\n", "odds 1/1 dice 1", "odds 1/1 dice 1\n",
		"odds dice 1\n" + strings.Repeat("\n", 6), "odds dice 1\n" + six, "odds  dice 1\n" + six, "odds 1/1 dice 0\n",
		"odds 1/1 dice 0\n0\n", "odds 1/1 dice -1\n", "odds 1/1 dice 1\n" + eleven, "odds 1/1 dice 2\n" + six,
		"odds 1/1 dice 3\n" + strings.Repeat("0\n", 16), "odds 1/1 dice 9223372036854775807\n" + six, "odds 0/1 dice 1\n" + six,
		"odds 1/0 dice 1\n" + six, "odds 21/1 dice 1\n" + six, "odds 1/21 dice 1\n" + six, "odds 1/1 dice 1\n" + strings.Repeat("8\n", 6),
		nine, six, eleven, tableTexts[0].text[20:], "map 1 1\n0\nrivers\nroads\n",
		strings.Repeat("\n", 100000), strings.Repeat(" ", 100000), "odds" + strings.Repeat(" 1/1", 100000) + " dice 1\n" + six,
		"odds 1/1 dice 1\n" + strings.Repeat("0\n", 100000), "odds 1/1 dice 1\n" + strings.Repeat("0", 100000),
	}
	for _, s := range texts {
		wantNoTable(t, s)
	}
}

// Whatever is read has exactly the text from which it was read.
func TestTableTextsChangedByOneByte(t *testing.T) {
	var texts []string
	for _, c := range tableTexts {
		texts = append(texts, c.text)
	}
	wantExactReader(t, impl.ParseTable, impl.TableText, texts, "\x00\t\n\r +-/0123456789:cdeiost\x80\xff")
}
