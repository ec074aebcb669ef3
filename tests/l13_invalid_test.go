package tests

import (
	"fmt"
	"math/rand"
	"slices"
	"testing"

	"loop.example/g00886/impl"
)

// someSheets are sheets that are valid somewhere, and others.
func someSheets() []impl.Sheet {
	return []impl.Sheet{sheet(0), sheet(1), sheet(0, order(0, -1)), sheet(1, order(1, -1)), sheet(0, order(0, 1, 0), order(3, -1)), sheet(2), sheet(-1, order(0, -1)),
		sheet(0, order(-1, -2, -1)), sheet(1, staying(3, 2)...), sheet(0, staying(make([]int, 13)...)...)}
}

// wantPositionFails requires every function with a board and a state to fail.
func wantPositionFails(t *testing.T, p position) {
	t.Helper()
	for _, o := range []impl.Order{order(0, -1), order(1, -1), order(0, 1, 0), order(-1, -2, -1), order(3, -1, 5, 5)} {
		what := fmt.Sprint(" of ", o, " in ", p)
		for side := -1; side <= 2; side++ {
			n, ok := p.fault(side, o)
			wantZero(t, fmt.Sprint("OrderFault for side ", side, what), ok, n)
		}
		n, ok := p.end(o)
		wantZero(t, "EndOf"+what, ok, n)
		n, ok = p.cost(o)
		wantZero(t, "OrderCost"+what, ok, n)
	}
	for _, x := range someSheets() {
		what := fmt.Sprint(" of ", x, " in ", p)
		n, code, ok := p.sheetFault(x)
		wantZero(t, "SheetFault"+what, ok, n, code)
		is, ok := p.isSheet(x)
		wantZero(t, "IsSheet"+what, ok, is)
		wantSheetCallsFail(t, p, x)
	}
	for _, text := range []string{"", "side 0\n", "side 1\n", "side 0\n0 - -\n", "side 0\n-1 6 -2\n", "side 2\n"} {
		wantNoText(t, p, text)
	}
}

func TestOrdersInInvalidStates(t *testing.T) {
	for _, s := range invalidStates() {
		wantPositionFails(t, position{campBoard(), s})
	}
}

func TestOrdersOnInvalidBoards(t *testing.T) {
	for _, b := range invalidBoards() {
		for _, s := range []impl.State{stateOf(), stateOf(unit(0, 0, -1, 1)), stateOf(unit(0, 0, 0, 1), unit(1, 0, -1, 1)), {Turn: -1}} {
			wantPositionFails(t, position{b, s})
		}
	}
}

// Orders of a state are given on a board for which it is valid, and on no other.
func TestOrdersOnOtherBoards(t *testing.T) {
	list := offices()
	counts := map[bool]int{}
	for n, w := range list {
		p := position{list[(n+1)%len(list)].board, w.state}
		valid := validBySearch(p.board, p.state)
		counts[valid]++
		if valid {
			wantAnySheet(t, officeOf(p), drawnSheet(rand.New(rand.NewSource(int64(n))), w, n%2))
		} else {
			wantPositionFails(t, p)
		}
	}
	if counts[true] < 20 || counts[false] < 20 {
		t.Errorf("valid and invalid states: %v", counts)
	}
}

func TestInvalidSidesOfOrders(t *testing.T) {
	p := parade()
	for _, side := range append([]int{2, 3, 256, 1 << 32, -1 << 32}, outside...) {
		for _, o := range []impl.Order{order(0, -1), order(1, -1), order(2, -1), order(0, 1), order(3, -1, 6), order(-1, -1), order(side, -1)} {
			n, ok := p.fault(side, o)
			wantZero(t, fmt.Sprint("OrderFault of ", o, " for side ", side), ok, n)
		}
	}
}

// An order with each other code has neither an end nor a cost, whatever side
// its unit is of.
func TestNoEndOfWrongOrders(t *testing.T) {
	p := parade()
	for _, o := range []impl.Order{
		order(2, -1), order(4, -1), order(5, -1), order(-1, -1), order(12, -1), order(outside[0], -1), order(outside[4], -1), order(1<<32, -1),
		order(0, -1, 1), order(1, -1, 0), order(1, -1, -1), order(3, -1, 6), order(0, -1, slices.Repeat([]int{0, 3}, 5)...),
		order(0, -1, 0, 0, 0, 0), order(1, -1, 3, 3, 3, 3), order(0, 0), order(1, 5), order(1, 4, 3), order(3, 3), order(1, -2), order(0, outside[4]),
	} {
		n, ok := p.end(o)
		wantZero(t, fmt.Sprint("EndOf ", o), ok, n)
		n, ok = p.cost(o)
		wantZero(t, fmt.Sprint("OrderCost of ", o), ok, n)
	}
}

// sheetWithSpare returns a sheet with orders behind the length of its list and
// directions behind that of its paths, with which it would be another one.
func sheetWithSpare(x impl.Sheet) impl.Sheet {
	orders := copySheet(x).Orders
	for n, o := range orders {
		orders[n].Path = slices.Concat(o.Path, []int{0, 3, 9})[:len(o.Path)]
	}
	x.Orders = slices.Concat(orders, staying(0, 11))[:len(orders)]
	return x
}

func wholeSheet(x impl.Sheet) string {
	text := fmt.Sprint(x.Side, len(x.Orders))
	for _, o := range x.Orders[:cap(x.Orders)] {
		text += fmt.Sprint(o, o.Path[:cap(o.Path)])
	}
	return text
}

func overwriteSheet(x impl.Sheet) {
	orders := x.Orders[:cap(x.Orders)]
	for n := range orders {
		overwrite(orders[n].Path)
		orders[n] = order(-99, -99, -99)
	}
}

// callAllOnSheet calls every function of the chapter, and overwrites and extends
// the results.
func callAllOnSheet(p position, x impl.Sheet) {
	p.sheetFault(x)
	p.isSheet(x)
	for i := -1; i <= 4; i++ {
		list, _ := p.attacks(x, i)
		overwrite(list)
	}
	for _, o := range x.Orders {
		for side := -1; side <= 2; side++ {
			p.fault(side, o)
		}
		p.end(o)
		p.cost(o)
		found, _ := impl.OrderOf(x, o.Unit)
		overwrite(found.Path)
		y, _ := p.put(x, o)
		overwriteSheet(y)
		y, _ = p.put(sheet(x.Side), o)
		overwriteSheet(y)
		y, _ = p.drop(x, o.Unit)
		overwriteSheet(y)
		other, _ := p.drop(x, o.Unit)
		y, _ = p.put(other, o)
		overwriteSheet(y)
		overwriteSheet(other)
	}
	text, _ := p.text(x)
	y, _ := p.read(text)
	overwriteSheet(y)
}

func TestOrdersChangeNothing(t *testing.T) {
	random := rand.New(rand.NewSource(137))
	for n, w := range offices() {
		p := position{boardWithSpare(w.board), stateWithSpare(w.state)}
		x := sheetWithSpare(drawnSheet(random, w, n%2))
		if n%3 == 0 {
			x = sheetWithSpare(sheet(n%2, anyOrder(random, w), anyOrder(random, w)))
		}
		keptBoard, keptState, kept := wholeOf(p.board), wholeState(p.state), wholeSheet(x)
		callAllOnSheet(p, x)
		if now := wholeSheet(x); now != kept {
			t.Fatalf("%s is changed to %s", kept, now)
		}
		if wholeOf(p.board) != keptBoard || wholeState(p.state) != keptState {
			t.Fatalf("%s is changed to %s, or %s to %s", keptBoard, wholeOf(p.board), keptState, wholeState(p.state))
		}
	}
}

func TestInvalidOrdersChangeNothing(t *testing.T) {
	calls := 0
	wantPositionsUnchanged(t, nil, func(b impl.Board, s impl.State) {
		x := sheetWithSpare(someSheets()[calls%10])
		calls++
		kept := wholeSheet(x)
		callAllOnSheet(position{b, s}, x)
		if now := wholeSheet(x); now != kept {
			t.Fatalf("%s is changed to %s", kept, now)
		}
	})
}

// What lies behind the lists of a board, of a state, of a sheet and of its paths
// plays no part.
func TestSpareCapacityOfSheets(t *testing.T) {
	random := rand.New(rand.NewSource(138))
	for n, w := range offices()[:200] {
		spare := office{position{boardWithSpare(w.board), stateWithSpare(w.state)}, w.next, w.costs}
		x := drawnSheet(random, w, n%2)
		wantAnySheet(t, spare, sheetWithSpare(x))
		wantAnyPut(t, spare, sheetWithSpare(x), sheetWithSpare(sheet(0, anyOrder(random, w))).Orders[0])
		wantFault(t, spare.position, 0, order(len(w.state.Units), -1), impl.OrUnit)
		wantFault(t, spare.position, 1, order(len(w.state.Units)+1, -1), impl.OrUnit)
	}
	// The last order alone, and none of them.
	orders := []impl.Order{order(0, -1), order(3, 0)}
	if o, ok := impl.OrderOf(sheet(0, orders[:1]...), 3); ok {
		t.Errorf("OrderOf a spare order: %v", o)
	}
	wantPut(t, parade(), sheet(0, orders[:1]...), order(3, 2), order(0, -1), order(3, 2))
	wantPut(t, parade(), sheet(0, orders[1:]...), order(0, 1), order(0, 1), order(3, 0))
	wantPut(t, parade(), sheet(0, orders[:0]...), order(3, 2), order(3, 2))
	if !sameSheet(sheet(0, orders...), sheet(0, order(0, -1), order(3, 0))) {
		t.Errorf("spare orders are changed: %v", orders)
	}
}

// sheetCalls are the functions that return a sheet or an order.
func sheetCalls(p position, x impl.Sheet, o impl.Order) map[string]func() (impl.Sheet, bool) {
	text := writtenSheet(x)
	return map[string]func() (impl.Sheet, bool){
		"PutOrder":            func() (impl.Sheet, bool) { return p.put(x, o) },
		"PutOrder of its own": func() (impl.Sheet, bool) { return p.put(x, x.Orders[0]) },
		"PutOrder to none":    func() (impl.Sheet, bool) { return p.put(sheet(x.Side), o) },
		"DropOrder":           func() (impl.Sheet, bool) { return p.drop(x, x.Orders[0].Unit) },
		"ParseSheet":          func() (impl.Sheet, bool) { return p.read(text) },
		"OrderOf": func() (impl.Sheet, bool) {
			found, ok := impl.OrderOf(x, o.Unit)
			return sheet(x.Side, found), ok
		},
	}
}

// wantNewSheet makes a call three times, overwrites and extends the first result,
// and requires the others and what was given to stay as they are.
func wantNewSheet(t *testing.T, name string, call func() (impl.Sheet, bool), given ...impl.Sheet) {
	t.Helper()
	var kept []impl.Sheet
	for _, x := range given {
		kept = append(kept, copySheet(x))
	}
	first, ok := call()
	second, ok2 := call()
	want := copySheet(second)
	overwriteSheet(first)
	third, ok3 := call()
	if !ok || !ok2 || !ok3 || !sameSheet(second, want) || !sameSheet(third, want) || !slices.EqualFunc(given, kept, sameSheet) {
		t.Fatalf("%s of %v: %v and %v after the first result was overwritten, want %v", name, kept, second, third, want)
	}
	wantListsApart(t, name, func() [][]int {
		var paths [][]int
		x, _ := call()
		for _, o := range x.Orders {
			paths = append(paths, o.Path)
		}
		return paths
	})
}

// A sheet or an order that is returned shares no memory with a given one, nor
// with another result, and its paths share none with each other.
func TestSheetsAreNew(t *testing.T) {
	random := rand.New(rand.NewSource(139))
	long := 0
	for n, w := range offices() {
		x := drawnSheet(random, w, n%2)
		if len(x.Orders) == 0 {
			continue
		}
		o := copyOrder(x.Orders[random.Intn(len(x.Orders))])
		for name, call := range sheetCalls(w.position, x, o) {
			wantNewSheet(t, name, call, x, sheet(0, o))
		}
		if len(o.Path) > 1 {
			long++
		}
	}
	if long < 20 {
		t.Errorf("only %d orders have a long path", long)
	}
}

// Paths that share memory in the arguments are apart in the results.
func TestSharedPathsAreApart(t *testing.T) {
	p := army(12)
	way := []int{0, 3, 0, 3}
	x := sheet(0, order(0, -1, way[:2]...), order(1, -1, way[:2]...), order(2, -1, way[:1]...))
	o := order(3, -1, way[2:3]...)
	for name, call := range sheetCalls(p, x, o) {
		if name != "OrderOf" {
			wantNewSheet(t, name, call, x, sheet(0, o))
		}
	}
	if !slices.Equal(way, []int{0, 3, 0, 3}) {
		t.Errorf("the paths are changed: %v", way)
	}
}

func TestListsOfAttacksAreNew(t *testing.T) {
	p := army(12)
	x := sheet(0, order(0, 1), order(2, 1), order(8, 1))
	wantNewLists(t, map[string]func() ([]int, bool){
		"AttacksOn": func() ([]int, bool) { return p.attacks(x, 1) },
	})
	if !sameSheet(x, sheet(0, order(0, 1), order(2, 1), order(8, 1))) {
		t.Errorf("the sheet is changed: %v", x)
	}
}

// Any numbers are accepted without a panic, and results and failures are those of
// the definitions.
func TestAnyNumbersForOrders(t *testing.T) {
	random := rand.New(rand.NewSource(1310))
	numbers := append([]int{0, 0, 1, 1, 2, 3, 4, 5, 6, 8, 9, 12, 13, 1 << 32}, outside...)
	draw := func() int { return numbers[random.Intn(len(numbers))] }
	valid := 0
	for range 4000 {
		p := position{plainFront(), stateOf(unit(0, guard, random.Intn(9), 1), unit(1, scout, random.Intn(10)-1, 1), unit(0, guard, random.Intn(9), 2))}
		switch random.Intn(4) {
		case 0:
			p.board.Map.Width, p.board.Map.Roads, p.board.Rules.Kinds[guard].Moves = draw(), []int{draw()}, draw()
		case 1:
			p.state.Units = append(p.state.Units, unit(draw(), draw(), draw(), draw()))
		}
		x := sheet(random.Intn(2))
		for range random.Intn(4) {
			x.Orders = append(x.Orders, order(random.Intn(3), random.Intn(10)-1, random.Perm(6)[:random.Intn(3)]...))
		}
		if random.Intn(3) == 0 {
			x = sheet(draw(), append(x.Orders, order(draw(), draw(), draw(), draw()))...)
		}
		if !impl.IsBoard(p.board) || !validBySearch(p.board, p.state) {
			wantPositionFails(t, p)
		} else if w := officeOf(p); x.Side != 0 && x.Side != 1 {
			wantNoSheet(t, p, x)
		} else {
			valid++
			wantAnySheet(t, w, x)
			wantAnyOrder(t, w, x.Side, order(draw(), draw(), random.Intn(6)))
		}
		o := order(draw(), draw(), draw())
		p.fault(draw(), o)
		p.end(o)
		p.cost(o)
		p.put(x, o)
		p.drop(x, draw())
		p.attacks(x, draw())
		impl.OrderOf(x, draw())
	}
	if valid < 1000 || valid > 3000 {
		t.Errorf("%d sheets are looked at", valid)
	}
}
