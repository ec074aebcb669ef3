package impl

const MaxCoord = 40
const MaxRadius = 6

// maxListed limits both the steps of a path and the hexes of a list.
const maxListed = 60

type Hex struct {
	Q int
	R int
}

// offset is the difference of two hexes. It is a type of its own because,
// unlike a Hex, it may exceed MaxCoord while a result is being computed.
type offset struct {
	q int
	r int
}

// directionSteps[d] is the step in direction d.
var directionSteps = [6]offset{{1, 0}, {1, -1}, {0, -1}, {-1, 0}, {-1, 1}, {0, 1}}

func (o offset) turned() offset {
	return offset{-o.r, o.q + o.r}
}

func (o offset) mirrored() offset {
	return offset{o.r, o.q}
}

func (o offset) times(n int) offset {
	return offset{n * o.q, n * o.r}
}

func (o offset) length() int {
	return (absolute(o.q) + absolute(o.r) + absolute(o.q+o.r)) / 2
}

func absolute(n int) int {
	if n < 0 {
		return -n
	}
	return n
}

func isCoord(n int) bool {
	return -MaxCoord <= n && n <= MaxCoord
}

func isDirection(d int) bool {
	return 0 <= d && d < len(directionSteps)
}

func isRadius(n int) bool {
	return 0 <= n && n <= MaxRadius
}

// offsetTo requires valid hexes: their differences cannot overflow.
func offsetTo(from Hex, to Hex) offset {
	return offset{to.Q - from.Q, to.R - from.R}
}

func shifted(h Hex, o offset) Hex {
	return Hex{h.Q + o.q, h.R + o.r}
}

// onlyValid turns a hex beyond the limits into a failed result.
func onlyValid(h Hex) (Hex, bool) {
	if !IsHex(h) {
		return Hex{}, false
	}
	return h, true
}

// IsHex reports whether a hex is valid.
func IsHex(h Hex) bool {
	return isCoord(h.Q) && isCoord(h.R)
}

// NeighbourOf returns the neighbour in direction d.
func NeighbourOf(h Hex, d int) (Hex, bool) {
	if !IsHex(h) || !isDirection(d) {
		return Hex{}, false
	}
	return onlyValid(shifted(h, directionSteps[d]))
}

// DistanceOf returns the distance of two hexes.
func DistanceOf(a Hex, b Hex) (int, bool) {
	if !IsHex(a) || !IsHex(b) {
		return 0, false
	}
	return offsetTo(a, b).length(), true
}

// DirectionTo returns the direction from a to b. It fails if they are not
// neighbours.
func DirectionTo(a Hex, b Hex) (int, bool) {
	if !IsHex(a) || !IsHex(b) {
		return 0, false
	}
	way := offsetTo(a, b)
	for d, step := range directionSteps {
		if step == way {
			return d, true
		}
	}
	return 0, false
}

// WalkFrom returns the hexes that are reached from h by the steps of a path, a
// list of at most 60 directions, one hex for each step.
func WalkFrom(h Hex, path []int) ([]Hex, bool) {
	if !IsHex(h) || len(path) > maxListed {
		return nil, false
	}
	walk := make([]Hex, 0, len(path))
	for _, d := range path {
		next, ok := NeighbourOf(h, d)
		if !ok {
			return nil, false
		}
		walk = append(walk, next)
		h = next
	}
	return walk, true
}

// RingOf returns the hexes at the distance radius in 0..MaxRadius from h: h
// alone for 0; otherwise it begins with the hex that is radius steps in
// direction 4 away, and continues with radius steps in each of the directions
// 0, 1, ..., 5, of which the last one would lead back to the beginning.
func RingOf(h Hex, radius int) ([]Hex, bool) {
	if !IsHex(h) || !isRadius(radius) {
		return nil, false
	}
	if radius == 0 {
		return []Hex{h}, true
	}
	ring := make([]Hex, 0, radius*len(directionSteps))
	at := shifted(h, directionSteps[4].times(radius))
	for _, step := range directionSteps {
		for range radius {
			if !IsHex(at) {
				return nil, false
			}
			ring = append(ring, at)
			at = shifted(at, step)
		}
	}
	return ring, true
}

// DiskOf returns the hexes whose distance from h is at most radius in
// 0..MaxRadius, in their order.
func DiskOf(h Hex, radius int) ([]Hex, bool) {
	if !IsHex(h) || !isRadius(radius) {
		return nil, false
	}
	var disk []Hex
	for q := -radius; q <= radius; q++ {
		for r := max(-radius, -radius-q); r <= min(radius, radius-q); r++ {
			at := shifted(h, offset{q, r})
			if !IsHex(at) {
				return nil, false
			}
			disk = append(disk, at)
		}
	}
	return disk, true
}

// TurnHex returns the hex that results from h by k turns, k in 0..5, about a
// centre: a turn changes the differences (q, r) of the coordinates of h and the
// centre into (-r, q + r).
func TurnHex(h Hex, centre Hex, k int) (Hex, bool) {
	if k < 0 || k > 5 {
		return Hex{}, false
	}
	return changedAbout(centre, h, offset.turned, k)
}

// MirrorHex returns the hex in which the differences of h and the centre are
// exchanged.
func MirrorHex(h Hex, centre Hex) (Hex, bool) {
	return changedAbout(centre, h, offset.mirrored, 1)
}

// changedAbout changes the offset of h from a centre a number of times. Only
// the last hex has to be valid: a figure may leave the limits and come back.
func changedAbout(centre Hex, h Hex, change func(offset) offset, times int) (Hex, bool) {
	if !IsHex(h) || !IsHex(centre) {
		return Hex{}, false
	}
	o := offsetTo(centre, h)
	for range times {
		o = change(o)
	}
	return onlyValid(shifted(centre, o))
}

// LineOf returns, for i = 0, 1, ..., n, where n is the distance of a and b, the
// hexes that are nearest to the point i/n of the way from a to b (to a if n is
// 0): one hex, or two in their order if the point lies on the border between
// both.
func LineOf(a Hex, b Hex) ([][]Hex, bool) {
	n, ok := DistanceOf(a, b)
	if !ok {
		return nil, false
	}
	parts := max(n, 1)
	way := offsetTo(a, b)
	line := make([][]Hex, 0, n+1)
	for i := range n + 1 {
		line = append(line, hexesNear(a.Q*parts+i*way.q, a.R*parts+i*way.r, parts))
	}
	return line, true
}

// hexesNear returns the hexes nearest to the point (q/parts, r/parts) of a line.
// One of Q, R and Q + R is an integer there, because one of them changes by 1
// with each step of a line, and no nearest hex differs in it.
func hexesNear(q int, r int, parts int) []Hex {
	var near []Hex
	switch {
	case q%parts == 0:
		for _, n := range nearestIntegers(r, parts) {
			near = append(near, Hex{q / parts, n})
		}
	case r%parts == 0:
		for _, n := range nearestIntegers(q, parts) {
			near = append(near, Hex{n, r / parts})
		}
	default:
		for _, n := range nearestIntegers(q, parts) {
			near = append(near, Hex{n, (q+r)/parts - n})
		}
	}
	return near
}

// nearestIntegers returns the integer nearest to n/parts, or the two equally
// near ones in increasing order.
func nearestIntegers(n int, parts int) []int {
	floor, rest := n/parts, n%parts
	if rest < 0 {
		floor, rest = floor-1, rest+parts
	}
	switch {
	case 2*rest < parts:
		return []int{floor}
	case 2*rest > parts:
		return []int{floor + 1}
	default:
		return []int{floor, floor + 1}
	}
}

// NearestAlong returns the index of the first hex of a list of 1 to 60 hexes
// with the least distance from h.
func NearestAlong(list []Hex, h Hex) (int, bool) {
	if len(list) == 0 || len(list) > maxListed {
		return 0, false
	}
	best, least := 0, 0
	for i, x := range list {
		n, ok := DistanceOf(x, h)
		if !ok {
			return 0, false
		}
		if i == 0 || n < least {
			best, least = i, n
		}
	}
	return best, true
}
