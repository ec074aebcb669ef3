package tests

import (
	"fmt"
	"math/rand"
	"slices"
	"testing"

	"loop.example/g00886/impl"
)

// order returns an order along a path with an attack, or with none if it is -1.
func order(u, attack int, path ...int) impl.Order {
	return impl.Order{Unit: u, Path: path, Attack: attack}
}

func sheet(side int, orders ...impl.Order) impl.Sheet {
	return impl.Sheet{Side: side, Orders: orders}
}

func (p position) fault(side int, o impl.Order) (int, bool) {
	return impl.OrderFault(p.board, p.state, side, o)
}

func (p position) sheetFault(x impl.Sheet) (int, int, bool) {
	return impl.SheetFault(p.board, p.state, x)
}

func (p position) isSheet(x impl.Sheet) (bool, bool) {
	return impl.IsSheet(p.board, p.state, x)
}

func (p position) end(o impl.Order) (int, bool) {
	return impl.EndOf(p.board, p.state, o)
}

func (p position) cost(o impl.Order) (int, bool) {
	return impl.OrderCost(p.board, p.state, o)
}

func (p position) put(x impl.Sheet, o impl.Order) (impl.Sheet, bool) {
	return impl.PutOrder(p.board, p.state, x, o)
}

func (p position) drop(x impl.Sheet, u int) (impl.Sheet, bool) {
	return impl.DropOrder(p.board, p.state, x, u)
}

func (p position) attacks(x impl.Sheet, i int) ([]int, bool) {
	return impl.AttacksOn(p.board, p.state, x, i)
}

func (p position) text(x impl.Sheet) (string, bool) {
	return impl.SheetText(p.board, p.state, x)
}

func (p position) read(text string) (impl.Sheet, bool) {
	return impl.ParseSheet(p.board, p.state, text)
}

// in returns the position in another weather.
func (p position) in(weather int) position {
	p.state.Weather = weather
	return p
}

// moving returns the position with other Moves of all kinds.
func (p position) moving(moves int) position {
	p.board = withMoves(p.board, moves)
	return p
}

// office is what the definitions say of a position: the neighbour of each hex in
// each direction, or -1, and the cost of the step there for each kind, or 0.
type office struct {
	position
	next  [][]int
	costs [][][]int
}

func officeOf(p position) office {
	w := office{position: p}
	for range p.board.Map.Terrain {
		w.next = append(w.next, slices.Repeat([]int{-1}, 6))
	}
	for _, e := range edgesBySearch(p.board.Map.Width, p.board.Map.Height) {
		w.next[e.from][e.number%3], w.next[e.to][e.number%3+3] = e.to, e.from
	}
	for kind := range p.board.Rules.Kinds {
		w.costs = append(w.costs, costsBySearch(p.board, kind, p.state.Weather))
	}
	return w
}

// unitsInPlay returns the units of a side that are on the map.
func (w office) unitsInPlay(side int) []int {
	return unitsBySearch(w.state, func(u impl.Unit) bool { return u.Side == side && u.At != -1 })
}

// wayBySearch returns the hex to which a path leads a unit and its cost, or -1 if
// it is none.
func (w office) wayBySearch(u int, path []int) (int, int) {
	v, cost := w.state.Units[u], 0
	at := v.At
	if len(path) > 9 {
		return at, -1
	}
	for _, d := range path {
		if d < 0 || d > 5 || w.costs[v.Kind][at][d] == 0 {
			return at, -1
		}
		cost += w.costs[v.Kind][at][d]
		at = w.next[at][d]
	}
	return at, cost
}

// codeBySearch reads the definition of the code of an order word by word.
func (w office) codeBySearch(side int, o impl.Order) int {
	if !slices.Contains(w.unitsInPlay(side), o.Unit) {
		return impl.OrUnit
	}
	end, cost := w.wayBySearch(o.Unit, o.Path)
	switch {
	case cost == -1:
		return impl.OrPath
	case cost > w.board.Rules.Kinds[w.state.Units[o.Unit].Kind].Moves:
		return impl.OrBudget
	case o.Attack == -1:
		return impl.OrOK
	case o.Attack < 0 || !slices.Contains(w.next[end], o.Attack):
		return impl.OrAttack
	}
	return impl.OrOK
}

// faultBySearch reads the contract of SheetFault word by word.
func (w office) faultBySearch(x impl.Sheet) (int, int) {
	for n, o := range x.Orders {
		code := w.codeBySearch(x.Side, o)
		if n > 0 && slices.Contains(w.unitsInPlay(x.Side), o.Unit) && o.Unit <= x.Orders[n-1].Unit {
			code = impl.OrTwice
		}
		if code != impl.OrOK {
			return n, code
		}
	}
	return len(x.Orders), impl.OrOK
}

// isSheetBySearch reads the definition of a sheet word by word.
func (w office) isSheetBySearch(x impl.Sheet) bool {
	if x.Side != 0 && x.Side != 1 || len(x.Orders) > 12 {
		return false
	}
	for n, o := range x.Orders {
		if w.codeBySearch(x.Side, o) != impl.OrOK || n > 0 && o.Unit <= x.Orders[n-1].Unit {
			return false
		}
	}
	return true
}

// drawnOffice returns an office on a board with rivers and roads. On half of the
// boards all steps are cheap, so that paths are long.
func drawnOffice(random *rand.Rand) office {
	b := drawnFront(random)
	b.Rules.River, b.Rules.Road = random.Intn(4), 1+random.Intn(3)
	for k := range b.Rules.Kinds {
		b.Rules.Kinds[k].Moves = random.Intn(10)
	}
	if random.Intn(2) == 0 {
		b.Rules.River = random.Intn(2)
		for i := range b.Rules.Terrains {
			b.Rules.Terrains[i].Cost = slices.Repeat([]int{1}, len(b.Rules.Kinds))
		}
	}
	s := drawnState(random, b)
	for u := range s.Units {
		if moved := withAt(s, u, random.Intn(len(b.Map.Terrain))); validBySearch(b, moved) {
			s = moved
		}
	}
	return officeOf(position{b, s})
}

// offices returns the offices of some fronts, and drawn ones.
func offices() []office {
	var list []office
	for _, p := range fronts()[30:60] {
		list = append(list, officeOf(p))
	}
	random := rand.New(rand.NewSource(13))
	for range 400 {
		list = append(list, drawnOffice(random))
	}
	return list
}

// drawnOrder returns an order of a unit on the map with the code OrOK.
func drawnOrder(random *rand.Rand, w office, u int) impl.Order {
	path := drawnWay(random, w.board, w.state.Units[u].At)
	for w.codeBySearch(w.state.Units[u].Side, order(u, -1, path...)) != impl.OrOK {
		path = path[:len(path)-1]
	}
	end, _ := w.wayBySearch(u, path)
	return order(u, w.next[end][random.Intn(6)], path...)
}

// drawnSheet returns a valid sheet of a side.
func drawnSheet(random *rand.Rand, w office, side int) impl.Sheet {
	x := sheet(side)
	for _, u := range w.unitsInPlay(side) {
		if random.Intn(4) > 0 {
			x.Orders = append(x.Orders, drawnOrder(random, w, u))
		}
	}
	return x
}

// anyOrder returns an order of which all may be wrong.
func anyOrder(random *rand.Rand, w office) impl.Order {
	o := order(random.Intn(len(w.state.Units)+2)-1, random.Intn(len(w.next)+3)-2, drawnPath(random)...)
	if units := w.unitsInPlay(random.Intn(2)); len(units) > 0 && random.Intn(4) > 0 {
		o = drawnOrder(random, w, units[random.Intn(len(units))])
	}
	switch random.Intn(7) {
	case 0:
		o.Attack = random.Intn(len(w.next)+3) - 2
	case 1:
		o.Path = append(slices.Clone(o.Path), random.Intn(8)-1)
	case 2:
		o.Path = slices.Concat(o.Path, drawnPath(random))
	case 3:
		o.Unit = random.Intn(len(w.state.Units)+2) - 1
	}
	return o
}

func copyOrder(o impl.Order) impl.Order {
	o.Path = slices.Clone(o.Path)
	return o
}

func copySheet(x impl.Sheet) impl.Sheet {
	copied := sheet(x.Side)
	for _, o := range x.Orders {
		copied.Orders = append(copied.Orders, copyOrder(o))
	}
	return copied
}

func sameOrder(x, y impl.Order) bool {
	return x.Unit == y.Unit && slices.Equal(x.Path, y.Path) && x.Attack == y.Attack
}

func sameSheet(x, y impl.Sheet) bool {
	return x.Side == y.Side && slices.EqualFunc(x.Orders, y.Orders, sameOrder)
}

// writtenSheet writes a sheet, also one that is not valid, as the document has
// it.
func writtenSheet(x impl.Sheet) string {
	text := fmt.Sprintln("side", x.Side)
	for _, o := range x.Orders {
		path, attack := "", fmt.Sprint(o.Attack)
		for _, d := range o.Path {
			path += fmt.Sprint(d)
		}
		if path == "" {
			path = "-"
		}
		if o.Attack == -1 {
			attack = "-"
		}
		text += fmt.Sprintln(o.Unit, path, attack)
	}
	return text
}

// wantFault requires the code of an order that is none of OrOK, so that it has
// neither an end nor a cost if the side is that of its unit.
func wantFault(t *testing.T, p position, side int, o impl.Order, want int) {
	t.Helper()
	what := fmt.Sprint(" of ", o, " in ", p)
	n, ok := p.fault(side, o)
	wantNumber(t, fmt.Sprint("OrderFault for side ", side, what), n, ok, want)
	if o.Unit < 0 || o.Unit >= len(p.state.Units) || p.state.Units[o.Unit].Side == side {
		end, ok := p.end(o)
		wantZero(t, "EndOf"+what, ok, end)
		cost, ok := p.cost(o)
		wantZero(t, "OrderCost"+what, ok, cost)
	}
}

// wantOrder requires an order to have the code OrOK, an end and a cost.
func wantOrder(t *testing.T, p position, o impl.Order, end, cost int) {
	t.Helper()
	what := fmt.Sprint(" of ", o, " in ", p)
	side := p.state.Units[o.Unit].Side
	n, ok := p.fault(side, o)
	wantNumber(t, "OrderFault"+what, n, ok, impl.OrOK)
	n, ok = p.end(o)
	wantNumber(t, "EndOf"+what, n, ok, end)
	n, ok = p.cost(o)
	wantNumber(t, "OrderCost"+what, n, ok, cost)
	n, ok = p.fault(1-side, o)
	wantNumber(t, "OrderFault for the other side"+what, n, ok, impl.OrUnit)
}

// wantSame requires a call to succeed with a sheet.
func wantSame(t *testing.T, call string, x impl.Sheet, ok bool, want impl.Sheet) {
	t.Helper()
	if !ok || !sameSheet(x, want) {
		t.Errorf("%s: %v, %v, want %v", call, x, ok, want)
	}
}

// wantSheetFault requires the fault of a sheet, which is none if it is that of
// its number of orders and OrOK.
func wantSheetFault(t *testing.T, p position, x impl.Sheet, index, code int) {
	t.Helper()
	what := fmt.Sprint(" of ", x, " in ", p)
	if n, c, ok := p.sheetFault(x); !ok || n != index || c != code {
		t.Errorf("SheetFault%s: %d, %d, %v, want %d, %d", what, n, c, ok, index, code)
	}
	if is, ok := p.isSheet(x); !ok || is != (code == impl.OrOK) {
		t.Errorf("IsSheet%s: %v, %v", what, is, ok)
	}
}

// wantSheetCallsFail requires every function that needs a valid sheet to fail.
func wantSheetCallsFail(t *testing.T, p position, x impl.Sheet) {
	t.Helper()
	what := fmt.Sprint(" of ", x, " in ", p)
	for _, o := range append([]impl.Order{order(0, -1), order(1, -1), order(-1, -1)}, x.Orders...) {
		y, ok := p.put(x, o)
		wantZero(t, fmt.Sprint("PutOrder of ", o, what), ok, y)
		y, ok = p.drop(x, o.Unit)
		wantZero(t, fmt.Sprint("DropOrder of ", o, what), ok, y)
	}
	for i := -1; i <= 4; i++ {
		list, ok := p.attacks(x, i)
		wantZero(t, fmt.Sprint("AttacksOn ", i, what), ok, list)
	}
	text, ok := p.text(x)
	wantZero(t, "SheetText"+what, ok, text)
	y, ok := p.read(writtenSheet(x))
	wantZero(t, "ParseSheet of the text"+what, ok, y)
}

// wantPut requires a sheet with an order that is found there, and that the sheet
// without it is the first one again if this had none.
func wantPut(t *testing.T, p position, x impl.Sheet, o impl.Order, want ...impl.Order) {
	t.Helper()
	what := fmt.Sprint(" of ", o, " to ", x, " in ", p)
	y, ok := p.put(x, o)
	wantSame(t, "PutOrder"+what, y, ok, sheet(x.Side, want...))
	found, ok := impl.OrderOf(y, o.Unit)
	if !ok || !sameOrder(found, o) {
		t.Errorf("OrderOf after PutOrder%s: %v, %v", what, found, ok)
	}
	dropped, ok := p.drop(y, o.Unit)
	rest := slices.DeleteFunc(copySheet(x).Orders, func(k impl.Order) bool { return k.Unit == o.Unit })
	wantSame(t, "DropOrder after PutOrder"+what, dropped, ok, sheet(x.Side, rest...))
	wantNoOrder(t, p, dropped, o.Unit)
}

func wantNoPut(t *testing.T, p position, x impl.Sheet, o impl.Order) {
	t.Helper()
	y, ok := p.put(x, o)
	wantZero(t, fmt.Sprint("PutOrder of ", o, " to ", x, " in ", p), ok, y)
}

// wantNoOrder requires a sheet to have no order of a unit.
func wantNoOrder(t *testing.T, p position, x impl.Sheet, u int) {
	t.Helper()
	what := fmt.Sprint(" of unit ", u, " in ", x)
	o, ok := impl.OrderOf(x, u)
	wantZero(t, "OrderOf"+what, ok, o)
	y, ok := p.drop(x, u)
	wantZero(t, "DropOrder"+what, ok, y)
}

func wantAttacks(t *testing.T, p position, x impl.Sheet, i int, want ...int) {
	t.Helper()
	list, ok := p.attacks(x, i)
	wantList(t, fmt.Sprint("AttacksOn ", i, " of ", x, " in ", p), list, ok, want)
}

// wantText requires the text of a sheet, which is read back.
func wantText(t *testing.T, p position, x impl.Sheet, want string) {
	t.Helper()
	if text, ok := p.text(x); !ok || text != want {
		t.Errorf("SheetText of %v in %v: %q, %v, want %q", x, p, text, ok, want)
	}
	y, ok := p.read(want)
	wantSame(t, fmt.Sprintf("ParseSheet(%q) in %v", want, p), y, ok, x)
}

// wantAnySheet requires the results of all functions for a sheet to be those of
// the definitions.
func wantAnySheet(t *testing.T, w office, x impl.Sheet) {
	t.Helper()
	index, code := w.faultBySearch(x)
	if is := w.isSheetBySearch(x); is != (code == impl.OrOK) {
		t.Fatalf("the definitions differ for %v in %v", x, w.position)
	}
	wantSheetFault(t, w.position, x, index, code)
	for n, o := range x.Orders {
		wantAnyOrder(t, w, x.Side, o)
		first := slices.IndexFunc(x.Orders, func(k impl.Order) bool { return k.Unit == o.Unit })
		if found, ok := impl.OrderOf(x, o.Unit); !ok || !sameOrder(found, x.Orders[min(first, n)]) {
			t.Errorf("OrderOf unit %d in %v: %v, %v", o.Unit, x, found, ok)
		}
	}
	if code != impl.OrOK {
		wantSheetCallsFail(t, w.position, x)
		return
	}
	wantText(t, w.position, x, writtenSheet(x))
	for i := range w.next {
		var units []int
		for _, o := range x.Orders {
			if o.Attack == i {
				units = append(units, o.Unit)
			}
		}
		wantAttacks(t, w.position, x, i, units...)
	}
}

func wantAnyOrder(t *testing.T, w office, side int, o impl.Order) {
	t.Helper()
	if code := w.codeBySearch(side, o); code != impl.OrOK {
		wantFault(t, w.position, side, o, code)
		return
	}
	end, cost := w.wayBySearch(o.Unit, o.Path)
	wantOrder(t, w.position, o, end, cost)
}
