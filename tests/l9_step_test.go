package tests

import (
	"fmt"
	"testing"

	"loop.example/g00886/impl"
)

func TestWeatherCosts(t *testing.T) {
	for weather := range impl.MaxWeather + 1 {
		n, ok := impl.WeatherCost(weather, false)
		wantNumber(t, fmt.Sprint("WeatherCost of ", weather), n, ok, costsOffRoads[weather])
		n, ok = impl.WeatherCost(weather, true)
		wantNumber(t, fmt.Sprint("WeatherCost along a road of ", weather), n, ok, costsOnRoads[weather])
	}
}

// A road costs 5, a meadow 3 or 2, and a river 4 more. The same holds in both
// directions over an edge, and what is on other edges plays no part.
func TestCostOverEdges(t *testing.T) {
	b := trailBoard(3, make([]int, 9)...)
	for d, edge := range edgesOfMiddle {
		others := without(edgesOfMiddle, edge)
		for weather := range 3 {
			for kind, enter := range []int{3, 2} {
				off, on := costsOffRoads[weather], costsOnRoads[weather]
				for _, c := range []struct {
					rivers, roads []int
					want          int
				}{
					{nil, nil, enter + off}, {others, nil, enter + off}, {nil, others, enter + off}, {others, others, enter + off},
					{[]int{edge}, nil, enter + 4 + off}, {[]int{edge}, others, enter + 4 + off}, {edgesOfMiddle, nil, enter + 4 + off},
					{nil, []int{edge}, 5 + on}, {others, []int{edge}, 5 + on}, {nil, edgesOfMiddle, 5 + on},
					{[]int{edge}, []int{edge}, 5 + on}, {edgesOfMiddle, []int{edge}, 5 + on}, {edgesOfMiddle, edgesOfMiddle, 5 + on},
				} {
					x := withEdges(b, c.rivers, c.roads)
					wantCost(t, x, kind, weather, middle, d, c.want)
					wantCost(t, x, kind, weather, aroundMiddle[d], (d+3)%6, c.want)
				}
			}
		}
	}
}

// The document's example: with a road over a river only Road and WeatherCost are
// counted.
func TestCostOfBridges(t *testing.T) {
	b := withEdges(trailRow(meadow, thicket), []int{0}, []int{0})
	for weather, want := range []int{5, 5, 6} {
		wantCost(t, b, walker, weather, 0, onwards, want)
		wantCost(t, b, walker, weather, 1, backwards, want)
	}
	b.Rules.Road = 1
	for weather, want := range []int{1, 1, 2} {
		wantCost(t, b, walker, weather, 0, onwards, want)
	}
	b.Map.Roads = nil
	for weather, want := range []int{12, 13, 14} {
		wantCost(t, b, walker, weather, 0, onwards, want)
		wantCost(t, b, walker, weather, 1, backwards, want-5)
	}
}

// What a kind cannot enter stays closed with a road; where a step begins may be
// closed.
func TestCostOfClosedHexes(t *testing.T) {
	enters := [][]int{{3, 8, 0, 0}, {2, 0, 0, 0}, {0, 0, 9, 0}, {0, 0, 0, 0}}
	for kind, costs := range enters {
		for from := range costs {
			for to, enter := range costs {
				for weather := range 3 {
					bare, river, road := enter+costsOffRoads[weather], enter+4+costsOffRoads[weather], 5+costsOnRoads[weather]
					if enter == 0 {
						bare, river, road = 0, 0, 0
					}
					b := trailRow(from, to)
					wantCost(t, b, kind, weather, 0, onwards, bare)
					wantCost(t, withEdges(b, []int{0}, nil), kind, weather, 0, onwards, river)
					wantCost(t, withEdges(b, nil, []int{0}), kind, weather, 0, onwards, road)
					wantCost(t, withEdges(b, []int{0}, []int{0}), kind, weather, 0, onwards, road)
				}
			}
		}
	}
}

func TestCostOffTheMap(t *testing.T) {
	for _, b := range []impl.Board{trailRow(meadow), trailRow(cliff), trailRow(meadow, thicket, meadow), trailBoard(1, meadow, meadow), park()} {
		for i := range b.Map.Terrain {
			for d := range steps {
				for weather := range 3 {
					if nextBySearch(b, i, d) < 0 {
						wantCost(t, b, walker, weather, i, d, 0)
					}
				}
			}
		}
	}
	// No step leads around the end of a row.
	b := trailBoard(2, meadow, meadow, meadow, meadow)
	wantCosts(t, b, walker, 0, 1, 0, 0, 0, 3, 3, 3)
	wantCosts(t, b, walker, 0, 2, 3, 3, 3, 0, 0, 0)
}

// The least and the greatest costs that rules can have.
func TestCostsOfOtherRules(t *testing.T) {
	b := withEdges(trailRow(meadow, thicket), []int{0}, nil)
	b.Rules.River = 0
	for weather, want := range []int{8, 9, 10} {
		wantCost(t, b, walker, weather, 0, onwards, want)
		wantCost(t, b, walker, weather, 1, backwards, want-5)
	}
	b.Rules.River, b.Rules.Terrains[thicket].Cost[walker] = 9, 9
	wantCost(t, b, walker, 2, 0, onwards, 20)
	wantCostliest(t, b, walker, 2, 20)
	b.Map.Roads = []int{0}
	b.Rules.Road = 9
	wantCost(t, b, walker, 2, 0, onwards, 10)
	b.Rules.Road, b.Rules.River = 1, 0
	wantCost(t, b, walker, 1, 0, onwards, 1)
	wantCostliest(t, b, walker, 1, 1)
}

func TestCostsInThePark(t *testing.T) {
	b := park()
	for i, want := range [][]int{
		{8, 0, 0, 0, 0, 0}, {3, 0, 0, 3, 0, 3}, {0, 0, 0, 8, 3, 0},
		{3, 8, 3, 0, 0, 3}, {0, 3, 8, 0, 3, 8}, {0, 0, 3, 3, 8, 3},
		{8, 3, 0, 0, 0, 0}, {3, 0, 3, 3, 0, 0}, {0, 0, 0, 8, 0, 0},
	} {
		for weather := range 3 {
			// Without roads, the weather adds the same to each step.
			var costs []int
			for _, n := range want {
				if n > 0 {
					n += weather
				}
				costs = append(costs, n)
			}
			wantCosts(t, b, walker, weather, i, costs...)
		}
		wantCosts(t, b, statue, 0, i, 0, 0, 0, 0, 0, 0)
	}
	wantCosts(t, b, cart, 0, middle, 0, 2, 0, 0, 2, 0)
	wantCosts(t, b, raft, 1, middle, 0, 0, 0, 10, 0, 0)
	wantCosts(t, b, raft, 0, 0, 0, 0, 0, 0, 0, 9)
	wantCosts(t, b, raft, 0, 3, 0, 0, 0, 0, 0, 0)
	b = withEdges(b, []int{edgesOfMiddle[1], edgesOfMiddle[3]}, []int{edgesOfMiddle[0], edgesOfMiddle[5]})
	wantCosts(t, b, walker, 2, middle, 0, 9, 10, 0, 5, 6)
	wantCosts(t, b, raft, 2, middle, 0, 0, 0, 15, 0, 0)
	wantCosts(t, b, walker, 2, 7, 5, 0, 6, 5, 0, 0)
}

func TestCostsOfOneHex(t *testing.T) {
	for terrain := range 4 {
		b := trailRow(terrain)
		for kind := range 4 {
			for weather := range 3 {
				wantCosts(t, b, kind, weather, 0, 0, 0, 0, 0, 0, 0)
				wantCheapest(t, b, kind, weather, 0, -1)
				wantCostliest(t, b, kind, weather, 0)
			}
		}
	}
}

// Among several directions of the least cost, the first one is the cheapest.
func TestCheapestInThePark(t *testing.T) {
	b := park()
	for i, want := range []int{0, 0, 4, 0, 1, 2, 1, 0, 3} {
		for weather := range 3 {
			wantCheapest(t, b, walker, weather, i, want)
		}
		wantCheapest(t, b, statue, 0, i, -1)
	}
	for i, want := range []int{-1, 0, 4, 0, 1, 2, 1, 0, -1} {
		wantCheapest(t, b, cart, 1, i, want)
	}
	for i, want := range []int{5, 4, -1, -1, 3, -1, 2, -1, -1} {
		wantCheapest(t, b, raft, 2, i, want)
	}
}

func TestCheapestOnAPlain(t *testing.T) {
	b := trailBoard(3, make([]int, 9)...)
	for d, edge := range edgesOfMiddle {
		rest := 0
		if d == 0 {
			rest = 1
		}
		wantCheapest(t, b, walker, 0, middle, 0)
		wantCheapest(t, withEdges(b, []int{edge}, nil), walker, 0, middle, rest)
		wantCheapest(t, withEdges(b, without(edgesOfMiddle, edge), nil), walker, 0, middle, d)
		wantCheapest(t, withEdges(b, nil, []int{edge}), walker, 0, middle, rest)
		wantCheapest(t, withEdges(b, edgesOfMiddle, []int{edge}), walker, 0, middle, d)
		cheap := withEdges(b, nil, []int{edge})
		cheap.Rules.Road = 1
		wantCheapest(t, cheap, walker, 0, middle, d)
		// The meadow costs as much as a road of 3, and in bad weather more.
		cheap.Rules.Road = 3
		wantCheapest(t, cheap, walker, 0, middle, 0)
		wantCheapest(t, cheap, walker, 1, middle, d)
		wantCheapest(t, cheap, walker, 2, middle, d)
		cheap.Rules.Road = 4
		wantCheapest(t, cheap, walker, 0, middle, rest)
		wantCheapest(t, cheap, walker, 1, middle, 0)
		wantCheapest(t, cheap, walker, 2, middle, 0)
	}
}

func TestCostliestSteps(t *testing.T) {
	for weather := range 3 {
		off, on := costsOffRoads[weather], costsOnRoads[weather]
		for kind, want := range []int{8 + off, 2 + off, 9 + off, 0} {
			wantCostliest(t, park(), kind, weather, want)
		}
		row := trailRow(meadow, meadow, meadow)
		wantCostliest(t, row, walker, weather, 3+off)
		wantCostliest(t, withEdges(row, []int{0}, nil), walker, weather, 7+off)
		wantCostliest(t, withEdges(row, []int{3}, nil), walker, weather, 7+off)
		wantCostliest(t, withEdges(row, []int{0, 3}, []int{3}), walker, weather, 7+off)
		wantCostliest(t, withEdges(row, []int{0, 3}, []int{0, 3}), walker, weather, 5+on)
		wantCostliest(t, withEdges(row, nil, []int{3}), walker, weather, 5+on)
		wantCostliest(t, withEdges(row, nil, []int{0}), statue, weather, 0)
		wantCostliest(t, withEdges(row, []int{0}, nil), raft, weather, 0)
		// The one step leads out of a hex that is closed.
		wantCostliest(t, trailRow(cliff, thicket), walker, weather, 8+off)
		wantCostliest(t, trailRow(lake, cliff), raft, weather, 9+off)
		wantCostliest(t, trailRow(cliff, cliff, meadow), cart, weather, 2+off)
		wantCostliest(t, trailRow(cliff, cliff), cart, weather, 0)
	}
}

// One river makes the costliest step, wherever it is.
func TestCostliestOverEachRiver(t *testing.T) {
	b := trailBoard(4, make([]int, 16)...)
	for _, edge := range edgeNumbers(4, 4) {
		for weather, want := range []int{7, 8, 9} {
			wantCostliest(t, withEdges(b, []int{edge}, nil), walker, weather, want)
		}
	}
}

// All results follow from the costs of the edges.
func TestCostsBySearch(t *testing.T) {
	for n, b := range trails() {
		for kind := range b.Rules.Kinds {
			wantCostsBySearch(t, b, kind, n%3)
		}
		wantCostsBySearch(t, b, 0, (n+1)%3)
	}
}

func wantCostsBySearch(t *testing.T, b impl.Board, kind, weather int) {
	t.Helper()
	greatest := 0
	for i, costs := range costsBySearch(b, kind, weather) {
		cheapest := -1
		for d, cost := range costs {
			greatest = max(greatest, cost)
			if cost > 0 && (cheapest < 0 || cost < costs[cheapest]) {
				cheapest = d
			}
		}
		wantCosts(t, b, kind, weather, i, costs...)
		wantCheapest(t, b, kind, weather, i, cheapest)
	}
	wantCostliest(t, b, kind, weather, greatest)
}
