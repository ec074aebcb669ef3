package tests

import (
	"fmt"
	"reflect"
	"testing"

	"loop.example/g00886/impl"
)

func hex(q, r int) impl.Hex {
	return impl.Hex{Q: q, R: r}
}

// hexesWithin returns the hexes with both coordinates in -limit..limit, in
// their order.
func hexesWithin(limit int) []impl.Hex {
	var list []impl.Hex
	for q := -limit; q <= limit; q++ {
		for r := -limit; r <= limit; r++ {
			list = append(list, hex(q, r))
		}
	}
	return list
}

// wantZero fails if a call that must fail succeeds or returns anything but zero
// values; an empty slice counts as nil.
func wantZero(t *testing.T, call string, ok bool, results ...any) {
	t.Helper()
	if ok {
		t.Errorf("%s succeeds, want a failure", call)
	}
	for _, x := range results {
		v := reflect.ValueOf(x)
		if v.Kind() == reflect.Slice && v.Len() == 0 {
			continue
		}
		if !v.IsZero() {
			t.Errorf("%s fails with the result %v, want a zero value", call, x)
		}
	}
}

// changedByOneByte returns a text in which one of the bytes is put in or takes
// the place of another one, or in which a byte is missing, and its beginnings.
func changedByOneByte(text, bytes string) []string {
	var list []string
	for i := range len(text) + 1 {
		for k := range len(bytes) {
			list = append(list, text[:i]+bytes[k:k+1]+text[i:])
			if i < len(text) {
				list = append(list, text[:i]+bytes[k:k+1]+text[i+1:])
			}
		}
		if i < len(text) {
			list = append(list, text[:i]+text[i+1:], text[:i])
		}
	}
	return list
}

// wantExactReader requires that whatever a reader accepts is the text of what it
// has read, and that it fails otherwise. The texts are changed by one byte in
// every way; some of them remain texts.
func wantExactReader[T any](t *testing.T, read func(string) (T, bool), textOf func(T) (string, bool), texts []string, bytes string) {
	t.Helper()
	accepted := 0
	for _, text := range texts {
		for _, s := range changedByOneByte(text, bytes) {
			x, ok := read(s)
			if !ok {
				wantZero(t, fmt.Sprintf("reading %q", s), ok, x)
				continue
			}
			accepted++
			if back, ok := textOf(x); !ok || back != s {
				t.Errorf("%q is read as %v, whose text is %q, %v", s, x, back, ok)
			}
		}
	}
	if accepted == 0 {
		t.Error("no changed text is read")
	}
}
