package tests

import (
	"reflect"
	"slices"

	"loop.example/g00886/impl"
)

// exampleBoard returns the board of the document's example.
func exampleBoard() impl.Board {
	return impl.Board{
		Rules: impl.Rules{
			Terrains: []impl.Terrain{{Name: "plain", Cost: []int{1}}, {Name: "sea", Cost: []int{0}}},
			Kinds:    []impl.Kind{{Name: "foot", Strength: 2, Moves: 1, Steps: 3, Zone: true, View: 1}},
			Stack:    2, Road: 1, Supply: 5, Turns: 10,
		},
		Map: impl.Map{Width: 3, Height: 1, Terrain: []int{0, 1, 0}},
	}
}

// fullRules returns rules with as many terrains and kinds as there may be: foot
// enters all terrains, horse three of them, ship one and post none.
func fullRules() impl.Rules {
	return impl.Rules{
		Terrains: []impl.Terrain{
			{Name: "plain", Cost: []int{1, 1, 0, 0}},
			{Name: "wood", Cost: []int{2, 0, 0, 0}, Shift: -1, Blocks: true},
			{Name: "hill", Cost: []int{3, 4, 0, 0}, Shift: -2, Height: 2},
			{Name: "sand", Cost: []int{4, 2, 0, 0}, Shift: 3},
			{Name: "town", Cost: []int{5, 0, 0, 0}, Shift: -3, Height: 1, Blocks: true},
			{Name: "sea", Cost: []int{9, 0, 9, 0}, Height: 3},
		},
		Kinds: []impl.Kind{
			{Name: "foot", Strength: 2, Moves: 3, Steps: 4, Zone: true, View: 2},
			{Name: "horse", Strength: 5, Moves: 6, Steps: 2, View: 4},
			{Name: "ship", Strength: 9, Moves: 9, Steps: 1, Zone: true},
			{Name: "post", Strength: 1, Moves: 9, Steps: 3},
		},
		Stack: 3, River: 2, Road: 1, Supply: 7, Turns: 12,
	}
}

// costRules returns rules with one kind, with one terrain for each cost.
func costRules(moves int, costs ...int) impl.Rules {
	r := impl.Rules{
		Kinds: []impl.Kind{{Name: "foot", Strength: 1, Moves: moves, Steps: 1}},
		Stack: 1, Road: 1, Turns: 1,
	}
	for n, cost := range costs {
		r.Terrains = append(r.Terrains, impl.Terrain{Name: string(rune('a' + n)), Cost: []int{cost}})
	}
	return r
}

// variedBoards returns boards of all sizes with fullRules.
func variedBoards() []impl.Board {
	var list []impl.Board
	for _, m := range variedMaps() {
		list = append(list, impl.Board{Rules: fullRules(), Map: m})
	}
	return list
}

// patterns returns all lists of a length of numbers in 0..terrains-1.
func patterns(length, terrains int) [][]int {
	list := [][]int{nil}
	for range length {
		var longer [][]int
		for _, p := range list {
			for n := range terrains {
				longer = append(longer, append(slices.Clone(p), n))
			}
		}
		list = longer
	}
	return list
}

// patternMaps returns the maps with the given sides and each pattern of
// terrains.
func patternMaps(width, height, terrains int) []impl.Map {
	var list []impl.Map
	for _, p := range patterns(width*height, terrains) {
		list = append(list, impl.Map{Width: width, Height: height, Terrain: p})
	}
	return list
}

func costAt(b impl.Board, kind, i int) int {
	return b.Rules.Terrains[b.Map.Terrain[i]].Cost[kind]
}

// openEdges returns the edges of a board between two hexes that a kind enters.
func openEdges(b impl.Board, kind int) []edge {
	var list []edge
	for _, e := range edgesBySearch(b.Map.Width, b.Map.Height) {
		if costAt(b, kind, e.from) > 0 && costAt(b, kind, e.to) > 0 {
			list = append(list, e)
		}
	}
	return list
}

// regionsBySearch finds regions by giving both ends of each edge the lesser one
// of their labels, until nothing changes: not by a search from hex to hex.
func regionsBySearch(b impl.Board, kind int) [][]int {
	labels := make([]int, len(b.Map.Terrain))
	for i := range labels {
		labels[i] = i
	}
	edges := openEdges(b, kind)
	for changed := true; changed; {
		changed = false
		for _, e := range edges {
			if labels[e.from] != labels[e.to] {
				least := min(labels[e.from], labels[e.to])
				labels[e.from], labels[e.to] = least, least
				changed = true
			}
		}
	}
	var regions [][]int
	for label := range labels {
		var region []int
		for i := range labels {
			if labels[i] == label && costAt(b, kind, i) > 0 {
				region = append(region, i)
			}
		}
		if len(region) > 0 {
			regions = append(regions, region)
		}
	}
	return regions
}

// stuckBySearch reads the contract of StuckKinds word by word.
func stuckBySearch(b impl.Board) []int {
	var stuck []int
	for kind, k := range b.Rules.Kinds {
		var costs []int
		for _, e := range openEdges(b, kind) {
			costs = append(costs, costAt(b, kind, e.from), costAt(b, kind, e.to))
		}
		if len(costs) == 0 || k.Moves < slices.Min(costs) {
			stuck = append(stuck, kind)
		}
	}
	return stuck
}

func sameLists(x, y [][]int) bool {
	return slices.EqualFunc(x, y, slices.Equal)
}

func copyBoard(b impl.Board) impl.Board {
	b.Map = copyMap(b.Map)
	b.Rules.Kinds = slices.Clone(b.Rules.Kinds)
	b.Rules.Terrains = slices.Clone(b.Rules.Terrains)
	for i, x := range b.Rules.Terrains {
		b.Rules.Terrains[i].Cost = slices.Clone(x.Cost)
	}
	return b
}

func sameBoard(x, y impl.Board) bool {
	return reflect.DeepEqual(x.Rules, y.Rules) && sameMap(x.Map, y.Map)
}

// ruleNumber is a number of rules with its limits.
type ruleNumber struct {
	name     string
	least    int
	greatest int
	at       func(r *impl.Rules) *int
}

// ruleNumbers returns every number that fullRules have.
func ruleNumbers() []ruleNumber {
	list := []ruleNumber{
		{"Stack", 1, 4, func(r *impl.Rules) *int { return &r.Stack }},
		{"River", 0, 9, func(r *impl.Rules) *int { return &r.River }},
		{"Road", 1, 9, func(r *impl.Rules) *int { return &r.Road }},
		{"Supply", 0, 20, func(r *impl.Rules) *int { return &r.Supply }},
		{"Turns", 1, 30, func(r *impl.Rules) *int { return &r.Turns }},
	}
	for i := range 6 {
		list = append(list,
			ruleNumber{"Shift", -3, 3, func(r *impl.Rules) *int { return &r.Terrains[i].Shift }},
			ruleNumber{"Height", 0, 3, func(r *impl.Rules) *int { return &r.Terrains[i].Height }})
		for k := range 4 {
			list = append(list, ruleNumber{"Cost", 0, 9, func(r *impl.Rules) *int { return &r.Terrains[i].Cost[k] }})
		}
	}
	for i := range 4 {
		list = append(list,
			ruleNumber{"Strength", 1, 9, func(r *impl.Rules) *int { return &r.Kinds[i].Strength }},
			ruleNumber{"Moves", 0, 9, func(r *impl.Rules) *int { return &r.Kinds[i].Moves }},
			ruleNumber{"Steps", 1, 4, func(r *impl.Rules) *int { return &r.Kinds[i].Steps }},
			ruleNumber{"View", 0, 4, func(r *impl.Rules) *int { return &r.Kinds[i].View }})
	}
	return list
}

// ruleNames returns every name that fullRules have.
func ruleNames() []func(r *impl.Rules) *string {
	var list []func(r *impl.Rules) *string
	for i := range 6 {
		list = append(list, func(r *impl.Rules) *string { return &r.Terrains[i].Name })
	}
	for i := range 4 {
		list = append(list, func(r *impl.Rules) *string { return &r.Kinds[i].Name })
	}
	return list
}
