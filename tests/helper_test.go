package tests

import (
	"fmt"
	"reflect"
	"slices"
	"testing"

	"loop.example/g00886/impl"
)

func hex(q, r int) impl.Hex {
	return impl.Hex{Q: q, R: r}
}

// hexesWithin returns the hexes with both coordinates in -limit..limit, in
// their order.
func hexesWithin(limit int) []impl.Hex {
	var list []impl.Hex
	for q := -limit; q <= limit; q++ {
		for r := -limit; r <= limit; r++ {
			list = append(list, hex(q, r))
		}
	}
	return list
}

// wantZero fails if a call that must fail succeeds or returns anything but zero
// values; an empty slice counts as nil.
func wantZero(t *testing.T, call string, ok bool, results ...any) {
	t.Helper()
	if ok {
		t.Errorf("%s succeeds, want a failure", call)
	}
	for _, x := range results {
		v := reflect.ValueOf(x)
		if v.Kind() == reflect.Slice && v.Len() == 0 {
			continue
		}
		if !v.IsZero() {
			t.Errorf("%s fails with the result %v, want a zero value", call, x)
		}
	}
}

// wantNumber and wantList require a call to succeed with a result.
func wantNumber(t *testing.T, call string, n int, ok bool, want int) {
	t.Helper()
	if !ok || n != want {
		t.Errorf("%s: %d, %v, want %d", call, n, ok, want)
	}
}

func wantList(t *testing.T, call string, list []int, ok bool, want []int) {
	t.Helper()
	if !ok || !slices.Equal(list, want) {
		t.Errorf("%s: %v, %v, want %v", call, list, ok, want)
	}
}

// wantNewLists makes each call twice, overwrites and extends the first result,
// and requires the second one and that of a third call to stay as they are.
func wantNewLists(t *testing.T, calls map[string]func() ([]int, bool)) {
	t.Helper()
	for name, call := range calls {
		first, ok := call()
		second, ok2 := call()
		want := slices.Clone(first)
		overwrite(first)
		third, ok3 := call()
		if !ok || !ok2 || !ok3 || len(want) == 0 || !slices.Equal(second, want) || !slices.Equal(third, want) {
			t.Errorf("%s: %v and %v after the first result was overwritten, want %v", name, second, third, want)
		}
	}
}

// wantListsApart overwrites and extends the lists of a result one by one, then
// all of them, and requires the others and the next results to stay as they are.
func wantListsApart(t *testing.T, name string, call func() [][]int) {
	t.Helper()
	want, second := call(), call()
	for n := range want {
		lists := call()
		overwrite(lists[n])
		for k, list := range lists {
			if k != n && !slices.Equal(list, want[k]) {
				t.Fatalf("%s: list %d changes with list %d: %v", name, k, n, list)
			}
		}
		overwriteLists(lists)
	}
	if !sameLists(second, want) || !sameLists(call(), want) {
		t.Fatalf("%s: other lists change with an overwritten result", name)
	}
}

// changedByOneByte returns a text in which one of the bytes is put in or takes
// the place of another one, or in which a byte is missing, and its beginnings.
func changedByOneByte(text, bytes string) []string {
	var list []string
	for i := range len(text) + 1 {
		for k := range len(bytes) {
			list = append(list, text[:i]+bytes[k:k+1]+text[i:])
			if i < len(text) {
				list = append(list, text[:i]+bytes[k:k+1]+text[i+1:])
			}
		}
		if i < len(text) {
			list = append(list, text[:i]+text[i+1:], text[:i])
		}
	}
	return list
}

// wantExactReader requires that whatever a reader accepts is the text of what it
// has read, and that it fails otherwise. The texts are changed by one byte in
// every way; some of them remain texts.
func wantExactReader[T any](t *testing.T, read func(string) (T, bool), textOf func(T) (string, bool), texts []string, bytes string) {
	t.Helper()
	accepted := 0
	for _, text := range texts {
		for _, s := range changedByOneByte(text, bytes) {
			x, ok := read(s)
			if !ok {
				wantZero(t, fmt.Sprintf("reading %q", s), ok, x)
				continue
			}
			accepted++
			if back, ok := textOf(x); !ok || back != s {
				t.Errorf("%q is read as %v, whose text is %q, %v", s, x, back, ok)
			}
		}
	}
	if accepted == 0 {
		t.Error("no changed text is read")
	}
}
