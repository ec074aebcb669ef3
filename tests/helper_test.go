package tests

import (
	"reflect"
	"testing"

	"loop.example/g00886/impl"
)

func hex(q, r int) impl.Hex {
	return impl.Hex{Q: q, R: r}
}

// hexesWithin returns the hexes with both coordinates in -limit..limit, in
// their order.
func hexesWithin(limit int) []impl.Hex {
	var list []impl.Hex
	for q := -limit; q <= limit; q++ {
		for r := -limit; r <= limit; r++ {
			list = append(list, hex(q, r))
		}
	}
	return list
}

// wantZero fails if a call that must fail succeeds or returns anything but zero
// values; an empty slice counts as nil.
func wantZero(t *testing.T, call string, ok bool, results ...any) {
	t.Helper()
	if ok {
		t.Errorf("%s succeeds, want a failure", call)
	}
	for _, x := range results {
		v := reflect.ValueOf(x)
		if v.Kind() == reflect.Slice && v.Len() == 0 {
			continue
		}
		if !v.IsZero() {
			t.Errorf("%s fails with the result %v, want a zero value", call, x)
		}
	}
}
