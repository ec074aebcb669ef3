package tests

import (
	"strings"
	"testing"

	"loop.example/g00886/impl"
)

func textOf(t *testing.T, m impl.Map) string {
	t.Helper()
	s, ok := impl.MapText(m)
	if !ok {
		t.Fatalf("MapText of %v fails", m)
	}
	return s
}

// wantNoMap fails if a text is read, or if anything but a zero map is returned.
func wantNoMap(t *testing.T, s string) {
	t.Helper()
	if m, ok := impl.ParseMap(s); ok || !sameMap(m, impl.Map{}) {
		t.Errorf("ParseMap(%q) = %v, %v, want a failure", s, m, ok)
	}
}

var mapTexts = []struct {
	m    impl.Map
	text string
}{
	{impl.Map{Width: 1, Height: 1, Terrain: []int{5}}, "map 1 1\n5\nrivers\nroads\n"},
	{impl.Map{Width: 3, Height: 2, Terrain: []int{0, 1, 2, 3, 4, 5}, Rivers: []int{0, 17}, Roads: []int{3, 10, 12}},
		"map 3 2\n012\n345\nrivers 0 17\nroads 3 10 12\n"},
	{impl.Map{Width: 1, Height: 3, Terrain: []int{2, 0, 1}, Roads: []int{5, 8}}, "map 1 3\n2\n0\n1\nrivers\nroads 5 8\n"},
	{impl.Map{Width: 10, Height: 1, Terrain: []int{0, 0, 1, 1, 2, 2, 3, 3, 4, 4}, Rivers: []int{24}, Roads: []int{}},
		"map 10 1\n0011223344\nrivers 24\nroads\n"},
}

func TestMapTexts(t *testing.T) {
	for _, c := range mapTexts {
		if s := textOf(t, c.m); s != c.text {
			t.Errorf("MapText of %v is %q, want %q", c.m, s, c.text)
		}
		if m, ok := impl.ParseMap(c.text); !ok || !sameMap(m, c.m) {
			t.Errorf("ParseMap(%q) = %v, %v", c.text, m, ok)
		}
	}
}

func TestMapTextsAreReadBack(t *testing.T) {
	for _, m := range variedMaps() {
		if back, ok := impl.ParseMap(textOf(t, m)); !ok || !sameMap(back, m) {
			t.Fatalf("the text of %v is read as %v, %v", m, back, ok)
		}
		m.Rivers, m.Roads = edgeNumbers(m.Width, m.Height), nil
		if back, ok := impl.ParseMap(textOf(t, m)); !ok || !sameMap(back, m) {
			t.Fatalf("the text of %v is read as %v, %v", m, back, ok)
		}
	}
}

func TestOtherTextsOfMaps(t *testing.T) {
	const good = "map 3 2\n012\n345\nrivers 0 17\nroads 3 10\n"
	if _, ok := impl.ParseMap(good); !ok {
		t.Fatal("the text itself is not read")
	}
	changes := [][2]string{
		{"map 3 2", "map 2 3"}, {"map 3 2", "map 03 2"}, {"map 3 2", "map 3 02"}, {"map 3 2", "map  3 2"},
		{"map 3 2", "map 3  2"}, {"map 3 2", " map 3 2"}, {"map 3 2", "map 3 2 "}, {"map 3 2", "map\t3 2"},
		{"map 3 2", "map +3 2"}, {"map 3 2", "map 3 +2"}, {"map 3 2", "map -3 -2"}, {"map 3 2", "map 3"},
		{"map 3 2", "map 3 2 0"}, {"map 3 2", "map"}, {"map 3 2", "Map 3 2"}, {"map 3 2", "maps 3 2"},
		{"map 3 2", "map3 2"}, {"map 3 2", "3 2"}, {"map 3 2", "map 3 two"}, {"map 3 2", "map 0x3 2"},
		{"map 3 2", "map 3.0 2"}, {"map 3 2", ""}, {"map 3 2", "map 6 1"}, {"map 3 2", "map 3 0"},
		{"map 3 2", "map 3 99999999999999999999"}, {"map 3 2", "map 99999999999999999999 2"},
		{"012", "01"}, {"012", "0123"}, {"012", "012 "}, {"012", " 012"}, {"012", "0 1 2"}, {"012", "01a"},
		{"012", "016"}, {"012", "01/"}, {"012", "01-1"}, {"012", "01\u0662"}, {"012\n345", "0123\n45"},
		{"012\n345", "01\n2345"}, {"012\n345", "012345"}, {"012\n345", "012\n\n345"}, {"012\n345", "012"},
		{"012\n345", "012\n345\n345"}, {"012\n345", "012\r\n345"},
		{"rivers 0", "rivers 00"}, {"rivers 0", "rivers -0"}, {"rivers 0", "rivers +0"}, {"rivers 0", "rivers  0"},
		{"rivers 0", "river 0"}, {"rivers 0", "roads 0"}, {"rivers 0", "Rivers 0"}, {"rivers 0", "rivers0"},
		{"rivers 0", "0"}, {"rivers 0 17", "rivers 17 0"}, {"rivers 0 17", "rivers 0 0 17"},
		{"rivers 0 17", "rivers 0 17 "}, {"rivers 0 17", "rivers 0,17"}, {"rivers 0 17", "rivers 0  17"},
		{"rivers 0 17", "rivers "}, {"rivers 0 17", ""}, {"rivers 0 17", "rivers 0 18"}, {"rivers 0 17", "rivers 0 16"},
		{"rivers 0 17", "rivers -1 17"}, {"rivers 0 17", "rivers 0 017"}, {"rivers 0 17", "rivers 0 1_7"},
		{"rivers 0 17", "rivers 0 18446744073709551633"}, {"rivers 0 17\n", ""}, {"rivers 0 17\n", "rivers 0 17 "},
		{"rivers 0 17\n", "rivers 0 17\n\n"}, {"rivers 0 17\n", "rivers 0 17\r\n"},
		{"roads 3 10", "roads 3 010"}, {"roads 3 10", "roads 10 3"}, {"roads 3 10", "roads 3 10 10"},
		{"roads 3 10", "roads  3 10"}, {"roads 3 10", "roads "}, {"roads 3 10", "rivers 3 10"}, {"roads 3 10", "road 3 10"},
		{"roads 3 10\n", "roads 3 10"}, {"roads 3 10\n", "roads 3 10\n\n"}, {"roads 3 10\n", "roads 3 10\n "},
		{"roads 3 10\n", "roads 3 10 \n"}, {"roads 3 10\n", "roads 3 10\x00"}, {"roads 3 10\n", ""},
		{"roads 3 10\n", "roads 3 10\nroads 3 10\n"}, {"roads 3 10\n", "roads 3 10\r\n"},
		{"rivers 0 17\nroads 3 10\n", "roads 3 10\nrivers 0 17\n"}, {"rivers 0 17\nroads 3 10\n", ""},
	}
	for _, c := range changes {
		bad := strings.Replace(good, c[0], c[1], 1)
		if bad == good {
			t.Fatalf("%q does not change the text", c)
		}
		wantNoMap(t, bad)
	}
	wantNoMap(t, good+good)
	wantNoMap(t, "\n"+good)
}

func TestTextsOfInvalidMaps(t *testing.T) {
	texts := []string{
		"", " ", "\n", "\n\n\n\n", "map", "map\n", "map 1 1", "map 1 1\n", "map 1 1\n0", "map 1 1\n0\n",
		"map 0 0\nrivers\nroads\n", "map 1 0\nrivers\nroads\n", "map 0 1\n\nrivers\nroads\n",
		"map 1 -1\nrivers\nroads\n", "map 1 -1\n", "map 1 -1", "map 1 -2\n", "map 1 -3", "map 1 -9223372036854775808\n",
		"map 1 9223372036854775807\n", "map 11 1\n00000000000\nrivers\nroads\n",
		"map 1 11\n" + strings.Repeat("0\n", 11) + "rivers\nroads\n",
		"map 1 1\n6\nrivers\nroads\n", "map 1 1\n9\nrivers\nroads\n", "map 1 1\n\xff\nrivers\nroads\n",
		"map 1 1\n0\nrivers 0\nroads\n", "map 1 1\n0\nrivers\nroads 0\n",
		strings.Repeat("\n", 100000), strings.Repeat(" ", 100000), "map 1 1" + strings.Repeat(" 1", 100000),
	}
	for _, s := range texts {
		wantNoMap(t, s)
	}
}

// Whatever is read has exactly the text from which it was read.
func TestTextsChangedByOneByte(t *testing.T) {
	var texts []string
	for _, c := range mapTexts {
		texts = append(texts, c.text)
	}
	wantExactReader(t, impl.ParseMap, impl.MapText, texts, "\x00\t\n\r +-/0123456789:amprsv\x80\xff")
}
