package tests

import (
	"fmt"
	"math/rand"
	"slices"
	"testing"

	"loop.example/g00886/impl"
)

// army returns a position with as many units as there may be: in a row of three
// hexes, side 0 has n of them, four in each hex, and the others are not on the
// map.
func army(n int) position {
	p := position{frontRow(make([]int, 3)...), stateOf()}
	for u := range 12 {
		v := unit(0, guard, u/4, 1)
		if u >= n {
			v.At = -1
		}
		p.state.Units = append(p.state.Units, v)
	}
	return p
}

// staying returns orders that change nothing.
func staying(units ...int) []impl.Order {
	var list []impl.Order
	for _, u := range units {
		list = append(list, order(u, -1))
	}
	return list
}

// firstUnits returns the numbers of n units.
func firstUnits(n int) []int {
	var list []int
	for u := range n {
		list = append(list, u)
	}
	return list
}

// A sheet may have no orders, and twelve of them.
func TestNumberOfOrders(t *testing.T) {
	p := army(12)
	for n := range 13 {
		wantSheetFault(t, p, sheet(0, staying(firstUnits(n)...)...), n, impl.OrOK)
		if n > 0 {
			wantSheetFault(t, p, sheet(1, staying(firstUnits(n)...)...), 0, impl.OrUnit)
		}
	}
	for _, side := range []int{0, 1} {
		wantSheetFault(t, parade(), sheet(side), 0, impl.OrOK)
	}
	// Twelve orders are looked at, whatever they are; of thirteen there is no
	// fault, and they are no sheet.
	for _, orders := range [][]impl.Order{
		staying(append(firstUnits(12), 12)...), staying(append(firstUnits(12), 11)...), staying(slices.Repeat([]int{0}, 13)...), staying(slices.Repeat([]int{-1}, 13)...),
		staying(make([]int, 1000)...),
	} {
		wantNoSheet(t, p, sheet(0, orders...))
		wantNoSheet(t, parade(), sheet(1, orders...))
	}
	last := staying(firstUnits(12)...)
	last[11].Attack = -2
	wantSheetFault(t, p, sheet(0, last...), 11, impl.OrAttack)
	wantSheetFault(t, p, sheet(0, staying(append(firstUnits(11), 12)...)...), 11, impl.OrUnit)
	wantSheetFault(t, p, sheet(0, staying(append(firstUnits(11), 0)...)...), 11, impl.OrTwice)
}

// wantNoSheet requires a sheet to be none, also for SheetFault.
func wantNoSheet(t *testing.T, p position, x impl.Sheet) {
	t.Helper()
	what := fmt.Sprint(" of ", x, " in ", p)
	n, code, ok := p.sheetFault(x)
	wantZero(t, "SheetFault"+what, ok, n, code)
	if is, ok := p.isSheet(x); !ok || is {
		t.Errorf("IsSheet%s: %v, %v", what, is, ok)
	}
	wantSheetCallsFail(t, p, x)
}

// A side of a sheet is 0 or 1; any other one is no sheet.
func TestSidesOfSheets(t *testing.T) {
	p := parade()
	wantSheetFault(t, p, sheet(0, staying(0, 3)...), 2, impl.OrOK)
	wantSheetFault(t, p, sheet(1, staying(1)...), 1, impl.OrOK)
	for _, side := range append([]int{2, 3, 256, 1 << 32, -1 << 32}, outside...) {
		for _, orders := range [][]impl.Order{nil, staying(0), staying(1), staying(0, 3), staying(-1), staying(3, 0)} {
			wantNoSheet(t, p, sheet(side, orders...))
		}
	}
}

// The first order that has a code is the fault of a sheet. In parade, side 0 has
// the units 0 and 3 on the map, in the hexes 0 and 1.
func TestFaultsOfSheets(t *testing.T) {
	p := parade()
	tooFar, closed, bold := []int{0, 0, 0, 0}, []int{1}, 5
	for _, c := range []struct {
		orders      []impl.Order
		index, code int
	}{
		{[]impl.Order{order(0, 2, 0), order(3, 1, 0)}, 2, impl.OrOK},
		{staying(0), 1, impl.OrOK}, {staying(3), 1, impl.OrOK}, {staying(1), 0, impl.OrUnit}, {staying(2), 0, impl.OrUnit}, {staying(5), 0, impl.OrUnit}, {staying(-1), 0, impl.OrUnit},
		// A repeated unit, and units that fall.
		{staying(0, 0), 1, impl.OrTwice}, {staying(3, 3), 1, impl.OrTwice}, {staying(3, 0), 1, impl.OrTwice}, {staying(0, 3, 3), 2, impl.OrTwice}, {staying(0, 3, 0), 2, impl.OrTwice},
		{staying(0, 0, 0), 1, impl.OrTwice}, {staying(3, 0, 0), 1, impl.OrTwice}, {staying(3, 0, 3), 1, impl.OrTwice},
		// A unit that is no unit of the side on the map is that first of all.
		{staying(0, -1), 1, impl.OrUnit}, {staying(3, 1), 1, impl.OrUnit}, {staying(3, 2), 1, impl.OrUnit}, {staying(1, 1), 0, impl.OrUnit}, {staying(2, 0), 0, impl.OrUnit},
		{staying(5, 0), 0, impl.OrUnit}, {staying(0, 1, 1), 1, impl.OrUnit}, {staying(0, 5, 3), 1, impl.OrUnit}, {staying(0, 2, 0), 1, impl.OrUnit},
		// A repeated unit comes before its other faults.
		{[]impl.Order{order(0, -1), order(0, -1, closed...)}, 1, impl.OrTwice}, {[]impl.Order{order(0, -1), order(0, -1, tooFar...)}, 1, impl.OrTwice},
		{[]impl.Order{order(0, -1), order(0, bold)}, 1, impl.OrTwice}, {[]impl.Order{order(3, -1), order(0, bold, closed...)}, 1, impl.OrTwice},
		{[]impl.Order{order(3, -1), order(1, bold, closed...)}, 1, impl.OrUnit},
		// Two faulty orders.
		{[]impl.Order{order(0, bold), order(3, -1, closed...)}, 0, impl.OrAttack}, {[]impl.Order{order(0, -1, tooFar...), order(0, -1)}, 0, impl.OrBudget},
		{[]impl.Order{order(3, bold), order(1, -1)}, 0, impl.OrAttack}, {[]impl.Order{order(3, -1, closed...), order(0, -1)}, 0, impl.OrPath},
		{[]impl.Order{order(0, -1), order(3, bold), order(3, -1)}, 1, impl.OrAttack}, {[]impl.Order{order(0, -1), order(3, -1, tooFar...), order(-1, -1)}, 1, impl.OrBudget},
		// The only fault is the last one.
		{[]impl.Order{order(0, 1), order(3, -1, closed...)}, 1, impl.OrPath}, {[]impl.Order{order(0, 1), order(3, bold, tooFar...)}, 1, impl.OrBudget},
		{[]impl.Order{order(0, 1), order(3, bold)}, 1, impl.OrAttack},
	} {
		x := sheet(0, c.orders...)
		wantSheetFault(t, p, x, c.index, c.code)
		if c.code != impl.OrOK {
			wantSheetCallsFail(t, p, x)
		}
	}
}

// Only the order before counts for a repeated unit, and its Unit alone.
func TestFaultOfOneOrderIsItsCode(t *testing.T) {
	random := rand.New(rand.NewSource(133))
	for _, w := range offices() {
		for range 5 {
			side, o := random.Intn(2), anyOrder(random, w)
			code := w.codeBySearch(side, o)
			index := 0
			if code == impl.OrOK {
				index = 1
			}
			wantSheetFault(t, w.position, sheet(side, o), index, code)
		}
	}
}

// Drawn sheets, of which one order or another may be wrong.
func TestDrawnSheets(t *testing.T) {
	random := rand.New(rand.NewSource(134))
	counts := map[int]int{}
	for _, w := range offices() {
		for k := range 8 {
			x := drawnSheet(random, w, random.Intn(2))
			if k >= 3 {
				for range 1 + random.Intn(2) {
					at := random.Intn(len(x.Orders) + 1)
					x.Orders = slices.Insert(x.Orders, at, anyOrder(random, w))
				}
				x.Orders = x.Orders[:min(len(x.Orders), 12)]
			}
			if k == 5 {
				slices.SortFunc(x.Orders, func(a, b impl.Order) int { return a.Unit - b.Unit })
			}
			wantAnySheet(t, w, x)
			_, code := w.faultBySearch(x)
			counts[code]++
		}
	}
	for code := range 6 {
		if counts[code] < 10 {
			t.Errorf("only %d sheets have the code %d: %v", counts[code], code, counts)
		}
	}
}

// OrderOf takes the first order of any sheet, also of one that has no board.
func TestOrderOf(t *testing.T) {
	x := sheet(7, order(3, 9, 5, 5), order(0, -1), order(3, -1, 1), order(-1, -2, 6), order(0, 4, 2), order(99, 0, slices.Repeat([]int{8}, 20)...), order(12, -1))
	for u, n := range map[int]int{3: 0, 0: 1, 99: 5, 12: 6} {
		if o, ok := impl.OrderOf(x, u); !ok || !sameOrder(o, x.Orders[n]) {
			t.Errorf("OrderOf unit %d: %v, %v, want %v", u, o, ok, x.Orders[n])
		}
	}
	for _, u := range []int{1, 2, 4, 5, 11, 13, 98, 100, -2, 1 << 32, 3 + 1<<32, outside[0], outside[1], outside[3], outside[4]} {
		o, ok := impl.OrderOf(x, u)
		wantZero(t, fmt.Sprint("OrderOf unit ", u), ok, o)
	}
	for _, side := range append([]int{0, 1, 2}, outside...) {
		for u := -1; u <= 12; u++ {
			o, ok := impl.OrderOf(sheet(side), u)
			wantZero(t, fmt.Sprint("OrderOf unit ", u, " of no orders"), ok, o)
		}
		long := sheet(side, staying(slices.Repeat([]int{5}, 100)...)...)
		long.Orders[99] = order(6, 2, 1)
		if o, ok := impl.OrderOf(long, 6); !ok || !sameOrder(o, order(6, 2, 1)) {
			t.Errorf("OrderOf the last of a hundred orders: %v, %v", o, ok)
		}
	}
}

// An order that is put in goes to the place of its unit.
func TestPutOrder(t *testing.T) {
	p := army(12)
	x := sheet(0, order(2, 1), order(5, -1, 0), order(9, -1, 3))
	for _, c := range []struct {
		o    impl.Order
		want []impl.Order
	}{
		// At the start, in between and at the end.
		{order(0, 1), []impl.Order{order(0, 1), x.Orders[0], x.Orders[1], x.Orders[2]}},
		{order(1, -1), []impl.Order{order(1, -1), x.Orders[0], x.Orders[1], x.Orders[2]}},
		{order(3, 1, 0, 0), []impl.Order{x.Orders[0], order(3, 1, 0, 0), x.Orders[1], x.Orders[2]}},
		{order(4, -1, 3), []impl.Order{x.Orders[0], order(4, -1, 3), x.Orders[1], x.Orders[2]}},
		{order(7, 2), []impl.Order{x.Orders[0], x.Orders[1], order(7, 2), x.Orders[2]}},
		{order(10, -1), []impl.Order{x.Orders[0], x.Orders[1], x.Orders[2], order(10, -1)}},
		{order(11, 0, 3), []impl.Order{x.Orders[0], x.Orders[1], x.Orders[2], order(11, 0, 3)}},
		// In the place of another one, or of the same.
		{order(2, -1, 0), []impl.Order{order(2, -1, 0), x.Orders[1], x.Orders[2]}}, {order(5, 2), []impl.Order{x.Orders[0], order(5, 2), x.Orders[2]}},
		{order(9, 1, 3, 3), []impl.Order{x.Orders[0], x.Orders[1], order(9, 1, 3, 3)}}, {x.Orders[1], x.Orders},
	} {
		wantPut(t, p, x, c.o, c.want...)
	}
	wantPut(t, p, sheet(0), order(11, -1), order(11, -1))
	wantPut(t, p, sheet(0, order(11, -1)), order(11, 1, 3, 0), order(11, 1, 3, 0))
	full := sheet(0, staying(firstUnits(12)...)...)
	for u := range 12 {
		want := copySheet(full).Orders
		want[u].Attack = []int{1, 0, 1}[u/4]
		wantPut(t, p, full, want[u], want...)
	}
}

// An order with another code, or of the other side, is not put in.
func TestPutWrongOrders(t *testing.T) {
	p := parade()
	full := position{p.board, copyState(army(12).state)}
	for _, x := range []impl.Sheet{sheet(0), sheet(0, staying(0)...), sheet(0, staying(3)...), sheet(0, order(0, 1), order(3, -1, 0))} {
		for _, o := range []impl.Order{
			order(1, -1), order(2, -1), order(4, -1), order(5, -1), order(-1, -1), order(12, -1), order(outside[0], -1), order(outside[4], -1),
			order(0, -1, 1), order(0, -1, 6), order(0, -1, -1), order(0, -1, slices.Repeat([]int{0, 3}, 5)...), order(3, -1, make([]int, 10000)...),
			order(0, -1, 0, 0, 0, 0), order(0, 3), order(0, 0), order(0, -2), order(3, 1), order(3, 0, 0), order(3, 6), order(3, outside[0]), order(3, outside[4]),
		} {
			wantNoPut(t, p, x, o)
		}
	}
	wantPut(t, p, sheet(1), order(1, 4), order(1, 4))
	for _, u := range []int{0, 2, 3, 4} {
		wantNoPut(t, p, sheet(1), order(u, -1))
		wantNoPut(t, p, sheet(1, order(1, 4)), order(u, -1))
	}
	// There is no thirteenth order.
	for _, u := range append([]int{12, 13, 1 << 32}, outside...) {
		wantNoPut(t, full, sheet(0, staying(firstUnits(12)...)...), order(u, -1))
		wantNoPut(t, full, sheet(0, staying(firstUnits(11)...)...), order(u, -1))
	}
}

func TestDropOrder(t *testing.T) {
	p := army(10)
	x := sheet(0, order(1, 1), order(2, -1, 0), order(6, -1, 3), order(9, -1))
	for n, want := range [][]impl.Order{x.Orders[1:], {x.Orders[0], x.Orders[2], x.Orders[3]}, {x.Orders[0], x.Orders[1], x.Orders[3]}, x.Orders[:3]} {
		y, ok := p.drop(x, x.Orders[n].Unit)
		wantSame(t, fmt.Sprint("DropOrder of unit ", x.Orders[n].Unit), y, ok, sheet(0, want...))
		wantNoOrder(t, p, y, x.Orders[n].Unit)
	}
	for _, u := range append([]int{0, 3, 4, 5, 7, 8, 10, 11, 12, 13, 1 << 32, 1 + 1<<32}, outside...) {
		wantNoOrder(t, p, x, u)
		wantNoOrder(t, p, sheet(0), u)
		wantNoOrder(t, p, sheet(1), u)
	}
	for u := range 10 {
		y, ok := p.drop(sheet(0, order(u, -1)), u)
		wantSame(t, fmt.Sprint("DropOrder of the only unit ", u), y, ok, sheet(0))
	}
	// One by one, all orders are dropped.
	y := sheet(0, staying(firstUnits(10)...)...)
	for k, u := range []int{3, 0, 9, 5, 1, 8, 2, 7, 4, 6} {
		var ok bool
		y, ok = p.drop(y, u)
		wantSheetFault(t, p, y, 9-k, impl.OrOK)
		if !ok {
			t.Errorf("unit %d is not dropped", u)
		}
		wantNoOrder(t, p, y, u)
	}
}

// Orders that are put in are found, in whatever order that is done.
func TestOrdersThatArePutInAreFound(t *testing.T) {
	random := rand.New(rand.NewSource(135))
	for _, w := range offices() {
		x := drawnSheet(random, w, random.Intn(2))
		y := sheet(x.Side)
		for _, n := range random.Perm(len(x.Orders)) {
			put, ok := w.put(y, x.Orders[n])
			if found, is := impl.OrderOf(put, x.Orders[n].Unit); !ok || !is || !sameOrder(found, x.Orders[n]) {
				t.Errorf("OrderOf after PutOrder of %v to %v in %v: %v, %v", x.Orders[n], y, w.position, found, is)
			}
			y = put
		}
		wantSame(t, "all orders of a sheet", y, true, x)
		for _, o := range x.Orders {
			other := drawnOrder(random, w, o.Unit)
			want := copySheet(x).Orders
			want[slices.IndexFunc(want, func(k impl.Order) bool { return k.Unit == o.Unit })] = other
			wantPut(t, w.position, x, other, want...)
		}
		for range 10 {
			wantAnyPut(t, w, x, anyOrder(random, w))
		}
	}
}

// wantAnyPut requires an order to be put in exactly if it has the code OrOK.
func wantAnyPut(t *testing.T, w office, x impl.Sheet, o impl.Order) {
	t.Helper()
	if w.codeBySearch(x.Side, o) != impl.OrOK {
		wantNoPut(t, w.position, x, o)
		return
	}
	want := slices.DeleteFunc(copySheet(x).Orders, func(k impl.Order) bool { return k.Unit == o.Unit })
	want = append(want, o)
	slices.SortFunc(want, func(a, b impl.Order) int { return a.Unit - b.Unit })
	wantPut(t, w.position, x, o, want...)
}

// Hexes are attacked by nobody, by one unit and by several.
func TestAttacksOn(t *testing.T) {
	p := army(12)
	x := sheet(0, order(0, 1), order(2, 1), order(3, -1), order(4, 0), order(5, 1, 0), order(7, 2), order(8, 1), order(11, 1, 3, 0))
	for i, want := range [][]int{{4}, {0, 2, 5, 8, 11}, {7}} {
		wantAttacks(t, p, x, i, want...)
	}
	for i := range 3 {
		wantAttacks(t, p, sheet(0), i)
		wantAttacks(t, p, sheet(1), i)
		wantAttacks(t, p, sheet(0, staying(firstUnits(12)...)...), i)
	}
	for _, i := range append([]int{3, 4, 9, -2, 1 << 32, 1 + 1<<32}, outside...) {
		for _, y := range []impl.Sheet{x, sheet(0), sheet(1), sheet(0, staying(0)...)} {
			list, ok := p.attacks(y, i)
			wantZero(t, fmt.Sprint("AttacksOn ", i, " of ", y), ok, list)
		}
	}
}
