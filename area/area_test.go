package area_test

import (
	"fmt"
	"math"
	"math/rand"
	"slices"
	"testing"

	"groupage/api"
	"groupage/area"
)

// zeros is an area whose numbers are all 0.
func zeros(n int) api.Area {
	return api.Area{N: n, Dist: make([]int64, n*n), Time: make([]int64, n*n)}
}

// unlike is an area, of up to 16 nodes, in which no two numbers are the same but those from a node to itself: each answer tells where it was found.
func unlike(n int) api.Area {
	a := zeros(n)
	for i := range n {
		for j := range n {
			if i != j {
				a.Dist[i*n+j] = int64(1 + (i*n+j)*37%257)
				a.Time[i*n+j] = int64(1000 + (i*n+j)*91%257)
			}
		}
	}
	return a
}

// drawn is an area of numbers of all sizes, the limits often among them.
func drawn(r *rand.Rand, n int) api.Area {
	a := zeros(n)
	for at := range n * n {
		if at/n != at%n {
			a.Dist[at] = drawnNumber(r)
			a.Time[at] = drawnNumber(r)
		}
	}
	return a
}

func drawnNumber(r *rand.Rand) int64 {
	switch r.Intn(6) {
	case 0:
		return 0
	case 1:
		return api.MostSize
	case 2:
		return r.Int63n(3)
	}
	return r.Int63n(api.MostSize + 1)
}

func copied(a api.Area) api.Area {
	return api.Area{N: a.N, Dist: slices.Clone(a.Dist), Time: slices.Clone(a.Time)}
}

func same(a, b api.Area) bool {
	return a.N == b.N && slices.Equal(a.Dist, b.Dist) && slices.Equal(a.Time, b.Time)
}

// allOf is one node n times.
func allOf(node, n int) []int {
	return slices.Repeat([]int{node}, n)
}

// lists are all lists of up to most of these nodes.
func lists(most int, nodes ...int) [][]int {
	l := [][]int{nil}
	last := l
	for range most {
		var longer [][]int
		for _, shorter := range last {
			for _, node := range nodes {
				longer = append(longer, append(slices.Clone(shorter), node))
			}
		}
		l = append(l, longer...)
		last = longer
	}
	return l
}

// wantNumbers holds one list of numbers against the chapter's Words, node by node.
func wantNumbers(n int, l []int64) bool {
	rows := slices.Collect(slices.Chunk(l, n))
	if len(rows) != n {
		return false
	}
	for i, row := range rows {
		if len(row) != n || row[i] != 0 || slices.Min(row) < 0 || slices.Max(row) > 1000000 {
			return false
		}
	}
	return true
}

func wantCheck(a api.Area) api.Errno {
	if a.N >= 1 && a.N <= 16 && wantNumbers(a.N, a.Dist) && wantNumbers(a.N, a.Time) {
		return api.OK
	}
	return api.ErrArg
}

// wantTold is the errors that all but Check have, in their order.
func wantTold(a api.Area, nodes []int) api.Errno {
	if e := wantCheck(a); e != api.OK {
		return e
	}
	if len(nodes) > 0 && (slices.Min(nodes) < 0 || slices.Max(nodes) > a.N-1) {
		return api.ErrName
	}
	return api.OK
}

// wantTour adds up a tour's legs from its last one on.
func wantTour(a api.Area, nodes []int) (int64, int64, api.Errno) {
	if e := wantTold(a, nodes); e != api.OK {
		return 0, 0, e
	}
	if len(nodes) > 100 {
		return 0, 0, api.ErrFull
	}
	var dist, time int64
	round := slices.Concat([]int{0}, nodes, []int{0})
	for i := len(round) - 1; i > 0; i-- {
		dist += a.Dist[a.N*round[i-1]+round[i]]
		time += a.Time[a.N*round[i-1]+round[i]]
	}
	return dist, time, api.OK
}

// wantNear sorts all the distances that count.
func wantNear(a api.Area, to int, from []int) (int64, api.Errno) {
	if e := wantTold(a, append([]int{to}, from...)); e != api.OK {
		return 0, e
	}
	if len(from) > 100 {
		return 0, api.ErrFull
	}
	var l []int64
	for _, node := range from {
		if node != to {
			l = append(l, a.Dist[a.N*node+to])
		}
	}
	if len(l) == 0 {
		return 0, api.ErrForm
	}
	slices.Sort(l)
	return l[0], api.OK
}

func checks(t *testing.T, what string, a api.Area, want api.Errno) {
	t.Helper()
	kept := copied(a)
	if e := area.Check(a); e != want {
		t.Errorf("Check of %s: %d; asked %d", what, e, want)
	}
	if !same(a, kept) {
		t.Errorf("Check changed %s", what)
	}
}

func leg(t *testing.T, a api.Area, from, to int, dist, time int64, want api.Errno) {
	t.Helper()
	kept := copied(a)
	if d, x, e := area.Leg(a, from, to); d != dist || x != time || e != want {
		t.Errorf("Leg(%d, %d) of %d nodes: %d, %d, %d; asked %d, %d, %d", from, to, a.N, d, x, e, dist, time, want)
	}
	if !same(a, kept) {
		t.Errorf("Leg(%d, %d) changed its area", from, to)
	}
}

func tour(t *testing.T, a api.Area, nodes []int, dist, time int64, want api.Errno) {
	t.Helper()
	kept, keptNodes := copied(a), slices.Clone(nodes)
	if d, x, e := area.Tour(a, nodes); d != dist || x != time || e != want {
		t.Errorf("Tour(%v) of %d nodes: %d, %d, %d; asked %d, %d, %d", nodes, a.N, d, x, e, dist, time, want)
	}
	if !same(a, kept) || !slices.Equal(nodes, keptNodes) {
		t.Errorf("Tour(%v) changed what it was given", keptNodes)
	}
}

func near(t *testing.T, a api.Area, to int, from []int, dist int64, want api.Errno) {
	t.Helper()
	kept, keptFrom := copied(a), slices.Clone(from)
	if d, e := area.Near(a, to, from); d != dist || e != want {
		t.Errorf("Near(%d, %v) of %d nodes: %d, %d; asked %d, %d", to, from, a.N, d, e, dist, want)
	}
	if !same(a, kept) || !slices.Equal(from, keptFrom) {
		t.Errorf("Near(%d, %v) changed what it was given", to, keptFrom)
	}
}

// badAreas are areas of each kind that may not be.
func badAreas() map[string]api.Area {
	l := map[string]api.Area{
		"no nodes":                    {},
		"no nodes, and a number":      {Dist: []int64{0}, Time: []int64{0}},
		"a node, without numbers":     {N: 1},
		"17 nodes":                    unlike(17),
		"17 nodes, numbers of 16":     {N: 17, Dist: make([]int64, 256), Time: make([]int64, 256)},
		"18 nodes":                    zeros(18),
		"100 nodes":                   zeros(100),
		"-1 nodes, and a number":      {N: -1, Dist: []int64{0}, Time: []int64{0}},
		"-1 nodes":                    {N: -1},
		"-2 nodes, and 4 numbers":     {N: -2, Dist: make([]int64, 4), Time: make([]int64, 4)},
		"-16 nodes, and 256":          {N: -16, Dist: make([]int64, 256), Time: make([]int64, 256)},
		"the greatest number":         {N: math.MaxInt},
		"the greatest, and 1 number":  {N: math.MaxInt, Dist: []int64{0}, Time: []int64{0}},
		"the least number":            {N: math.MinInt},
		"2^32, whose square wraps":    {N: 1 << 32},
		"2^63 - 2, a square of 4":     {N: math.MaxInt - 1, Dist: make([]int64, 4), Time: make([]int64, 4)},
		"2^32 + 1, as if it were 1":   {N: 1<<32 + 1, Dist: []int64{0}, Time: []int64{0}},
		"a Dist of another area":      {N: 3, Dist: make([]int64, 16), Time: make([]int64, 9)},
		"a Time of another area":      {N: 3, Dist: make([]int64, 9), Time: make([]int64, 4)},
		"8 and 10 numbers, of 3":      {N: 3, Dist: make([]int64, 8), Time: make([]int64, 10)},
		"rows of 4, and 3 of them":    {N: 4, Dist: make([]int64, 12), Time: make([]int64, 12)},
		"a Dist from a node to it":    {N: 1, Dist: []int64{1}, Time: []int64{0}},
		"a Time from a node to it":    {N: 1, Dist: []int64{0}, Time: []int64{1}},
		"a great Dist from it to it":  {N: 1, Dist: []int64{math.MaxInt64}, Time: []int64{0}},
		"a Time below 0, of it to it": {N: 1, Dist: []int64{0}, Time: []int64{-1}},
	}
	for name, number := range map[string]int64{"-1": -1, "1000001": 1000001, "the least": math.MinInt64, "the greatest": math.MaxInt64} {
		a, b := unlike(3), unlike(3)
		a.Dist[5], b.Time[7] = number, number
		l["a Dist of "+name], l["a Time of "+name] = a, b
	}
	return l
}

// P6.1: areas of 1 to 16 nodes may be, whatever their numbers; of no other number.
func TestCheckNumberOfNodes(t *testing.T) {
	r := rand.New(rand.NewSource(1))
	for n := 1; n <= 16; n++ {
		checks(t, fmt.Sprint(n, " nodes, all 0"), zeros(n), api.OK)
		checks(t, fmt.Sprint(n, " nodes"), unlike(n), api.OK)
		checks(t, fmt.Sprint(n, " nodes, drawn"), drawn(r, n), api.OK)
	}
	for n := 17; n <= 40; n++ {
		checks(t, fmt.Sprint(n, " nodes"), zeros(n), api.ErrArg)
	}
	for name, a := range badAreas() {
		checks(t, name, a, api.ErrArg)
	}
}

// P6.1: Dist and Time have N times N numbers each: not one less, not one more, not none.
func TestCheckNumberOfNumbers(t *testing.T) {
	for n := 1; n <= 16; n++ {
		for _, count := range []int{0, 1, n - 1, n, n + 1, 2 * n, n*n - n, n*n - 1, n * n, n*n + 1, n*n + n, 2 * n * n, (n + 1) * (n + 1)} {
			want := api.ErrArg
			if count == n*n {
				want = api.OK
			}
			what := fmt.Sprint(n, " nodes, and numbers: ", count)
			checks(t, what+" (Dist)", api.Area{N: n, Dist: make([]int64, count), Time: make([]int64, n*n)}, want)
			checks(t, what+" (Time)", api.Area{N: n, Dist: make([]int64, n*n), Time: make([]int64, count)}, want)
			checks(t, what+" (both)", api.Area{N: n, Dist: make([]int64, count), Time: make([]int64, count)}, want)
		}
		checks(t, "no Dist", api.Area{N: n, Time: make([]int64, n*n)}, api.ErrArg)
		checks(t, "no Time", api.Area{N: n, Dist: make([]int64, n*n)}, api.ErrArg)
		checks(t, "an empty Dist", api.Area{N: n, Dist: []int64{}, Time: make([]int64, n*n)}, api.ErrArg)
	}
}

// P6.1: at each place numbers are from 0 to 1000000, and 0 from a node to itself.
func TestCheckNumbers(t *testing.T) {
	numbers := []int64{math.MinInt64, -1000000, -2, -1, 0, 1, 2, 999999, 1000000, 1000001, 1000002, 1 << 32, math.MaxInt64}
	for _, n := range []int{1, 2, 3, 5, 16} {
		for at := range n * n {
			for _, number := range numbers {
				want := api.OK
				if number < 0 || number > 1000000 || at%(n+1) == 0 && number != 0 {
					want = api.ErrArg
				}
				for _, a := range []api.Area{zeros(n), unlike(n)} {
					b := copied(a)
					a.Dist[at], b.Time[at] = number, number
					checks(t, fmt.Sprint(n, " nodes, Dist ", number, " at ", at), a, want)
					checks(t, fmt.Sprint(n, " nodes, Time ", number, " at ", at), b, want)
				}
			}
		}
	}
}

// P6.1: distances and times needn't be the same both ways, nor a way by another node longer.
func TestCheckTakesEachWayForItself(t *testing.T) {
	a := api.Area{N: 3, Dist: []int64{0, 1000000, 1, 0, 0, 7, 1, 1, 0}, Time: []int64{0, 0, 0, 1000000, 0, 5, 2, 9, 0}}
	checks(t, "an area of unlike ways", a, api.OK)
	leg(t, a, 0, 1, 1000000, 0, api.OK)
	leg(t, a, 1, 0, 0, 1000000, api.OK)
	leg(t, a, 1, 2, 7, 5, api.OK)
	leg(t, a, 2, 1, 1, 9, api.OK)
	tour(t, a, []int{1, 2}, 1000008, 7, api.OK)
	tour(t, a, []int{2, 1}, 2, 1000009, api.OK)
	near(t, a, 1, []int{0, 2}, 1, api.OK)
	near(t, a, 0, []int{1, 2}, 0, api.OK)
}

// P6.1: from each node to each, both numbers; from nodes that are none, ErrName.
func TestLeg(t *testing.T) {
	for n := 1; n <= 16; n++ {
		a := unlike(n)
		for from := range n {
			for to := range n {
				leg(t, a, from, to, a.Dist[n*from+to], a.Time[n*from+to], api.OK)
			}
		}
		for _, none := range []int{-1, -2, -n, math.MinInt, n, n + 1, n * n, 16, 17, 1 << 32, math.MaxInt} {
			if none >= 0 && none < n {
				continue
			}
			for node := range n {
				leg(t, a, none, node, 0, 0, api.ErrName)
				leg(t, a, node, none, 0, 0, api.ErrName)
			}
			leg(t, a, none, none, 0, 0, api.ErrName)
			leg(t, a, none, -1, 0, 0, api.ErrName)
		}
	}
}

// P6.1: the document's example, and tours of all kinds.
func TestTour(t *testing.T) {
	a := api.Area{N: 3, Dist: []int64{0, 1, 2, 4, 0, 8, 16, 32, 0}, Time: []int64{0, 100, 200, 400, 0, 800, 1600, 3200, 0}}
	for _, c := range []struct {
		nodes []int
		dist  int64
	}{
		{nil, 0}, {[]int{}, 0}, {[]int{0}, 0}, {[]int{0, 0}, 0}, {[]int{1}, 5}, {[]int{2}, 18},
		{[]int{1, 2}, 25}, {[]int{2, 1}, 38}, {[]int{1, 1}, 5}, {[]int{2, 2, 2}, 18}, {[]int{1, 2, 1}, 45},
		{[]int{0, 1}, 5}, {[]int{1, 0}, 5}, {[]int{1, 0, 2}, 23}, {[]int{0, 1, 0, 0, 2, 0}, 23}, {[]int{2, 1, 2}, 58},
	} {
		tour(t, a, c.nodes, c.dist, 100*c.dist, api.OK)
	}
	one := zeros(1)
	tour(t, one, nil, 0, 0, api.OK)
	tour(t, one, []int{0, 0, 0}, 0, 0, api.OK)
	tour(t, one, []int{1}, 0, 0, api.ErrName)
	tour(t, one, []int{-1}, 0, 0, api.ErrName)
}

// P6.1: a tour of 100 nodes is told whole, one of 101 is ErrFull, however many nodes more.
func TestTourLength(t *testing.T) {
	a := unlike(16)
	var nodes []int
	for i := range 100 {
		nodes = append(nodes, (7*i+3)%16)
		dist, time, _ := wantTour(a, nodes)
		tour(t, a, nodes, dist, time, api.OK)
	}
	for _, more := range []int{101, 102, 200, 256, 1000, 100000} {
		long := slices.Repeat(nodes, 1+more/100)[:more]
		tour(t, a, long, 0, 0, api.ErrFull)
		tour(t, a, allOf(0, more), 0, 0, api.ErrFull)
	}
	tour(t, a, allOf(0, 100), 0, 0, api.OK)
	tour(t, a, allOf(15, 100), a.Dist[15]+a.Dist[15*16], a.Time[15]+a.Time[15*16], api.OK)
}

// P6.1: the longest tour there is, of the greatest numbers.
func TestTourOfGreatNumbers(t *testing.T) {
	a := api.Area{N: 2, Dist: []int64{0, 1000000, 1000000, 0}, Time: []int64{0, 999999, 1000000, 0}}
	nodes := slices.Repeat([]int{1, 0}, 50)
	tour(t, a, nodes, 100000000, 99999950, api.OK)
}

// P6.1: a node that is none of it is found wherever it stands.
func TestTourOfNodesThatAreNone(t *testing.T) {
	for _, n := range []int{1, 2, 3, 16} {
		a := unlike(n)
		for _, length := range []int{1, 2, 5, 100} {
			for at := range length {
				for _, none := range []int{-1, -n, math.MinInt, n, n + 1, n * n, math.MaxInt} {
					if none >= 0 && none < n {
						continue
					}
					nodes := allOf(n-1, length)
					nodes[at] = none
					tour(t, a, nodes, 0, 0, api.ErrName)
				}
			}
		}
	}
}

// P6.2: the least distance to a node, not from it, whichever of them it is.
func TestNear(t *testing.T) {
	a := api.Area{N: 4, Dist: []int64{0, 9, 5, 7, 1, 0, 8, 3, 6, 2, 0, 4, 9, 9, 1, 0}, Time: make([]int64, 16)}
	for _, c := range []struct {
		to   int
		from []int
		dist int64
	}{
		{1, []int{0}, 9}, {0, []int{1}, 1}, {1, []int{2}, 2}, {2, []int{1}, 8}, {1, []int{3}, 9},
		{1, []int{0, 2, 3}, 2}, {1, []int{2, 0, 3}, 2}, {1, []int{3, 0, 2}, 2}, {1, []int{0, 3}, 9},
		{1, []int{1, 0}, 9}, {1, []int{0, 1}, 9}, {1, []int{0, 1, 3, 1, 2}, 2}, {1, []int{1, 1, 3, 1}, 9},
		{1, []int{0, 0}, 9}, {1, []int{2, 0, 2}, 2}, {3, []int{0, 1, 2, 3}, 3}, {0, []int{0, 2, 3}, 6}, {2, []int{0, 1, 3}, 1},
	} {
		near(t, a, c.to, c.from, c.dist, api.OK)
	}
	near(t, zeros(2), 1, []int{0}, 0, api.OK)
	near(t, zeros(2), 0, []int{1, 0}, 0, api.OK)
	far := api.Area{N: 3, Dist: []int64{0, 1000000, 0, 0, 0, 0, 0, 1000000, 0}, Time: make([]int64, 9)}
	near(t, far, 1, []int{0}, 1000000, api.OK)
	near(t, far, 1, []int{2, 1, 0}, 1000000, api.OK)
}

// P6.2: ErrForm where from has none but to: no node, or that one, however often.
func TestNearFromNone(t *testing.T) {
	for _, n := range []int{1, 2, 3, 16} {
		a := unlike(n)
		for to := range n {
			near(t, a, to, nil, 0, api.ErrForm)
			near(t, a, to, []int{}, 0, api.ErrForm)
			for _, count := range []int{1, 2, 3, 99, 100} {
				near(t, a, to, allOf(to, count), 0, api.ErrForm)
			}
		}
	}
}

// P6.2: from each node to each, alone and among all; nodes that are none are ErrName, wherever they stand.
func TestNearOfEachNode(t *testing.T) {
	for n := 2; n <= 16; n++ {
		a := unlike(n)
		var all []int
		for node := range n {
			all = append(all, node)
		}
		for to := range n {
			dist, _ := wantNear(a, to, all)
			near(t, a, to, all, dist, api.OK)
			for from := range n {
				if from != to {
					near(t, a, to, []int{from}, a.Dist[n*from+to], api.OK)
				}
			}
			for _, none := range []int{-1, -n, math.MinInt, n, n + 1, n * n, math.MaxInt} {
				for at := range all {
					from := slices.Clone(all)
					from[at] = none
					near(t, a, to, from, 0, api.ErrName)
				}
				near(t, a, none, all, 0, api.ErrName)
				near(t, a, to, []int{none}, 0, api.ErrName)
				near(t, a, to, []int{to, none}, 0, api.ErrName)
			}
		}
	}
}

// P6.2: from of 100 nodes is told, the last one counts as the first does; of 101 it is ErrFull.
func TestNearLength(t *testing.T) {
	a := unlike(16)
	near(t, a, 5, allOf(4, 100), a.Dist[4*16+5], api.OK)
	near(t, a, 5, allOf(4, 101), 0, api.ErrFull)
	for at := range 100 {
		from := allOf(5, 100)
		from[at] = 9
		near(t, a, 5, from, a.Dist[9*16+5], api.OK)
		near(t, a, 5, append(from, 9), 0, api.ErrFull)
	}
	for _, more := range []int{101, 102, 200, 256, 1000, 100000} {
		near(t, a, 5, allOf(4, more), 0, api.ErrFull)
		near(t, a, 5, allOf(5, more), 0, api.ErrFull)
	}
}

// P6.1 and P6.2: in an area that may not be, all are ErrArg, also with nodes that are none, and too many of them.
func TestBadAreaFirst(t *testing.T) {
	for _, a := range badAreas() {
		for _, node := range []int{-1, 0, 1, 2, 16, 17, math.MaxInt, math.MinInt} {
			leg(t, a, node, 0, 0, 0, api.ErrArg)
			leg(t, a, 0, node, 0, 0, api.ErrArg)
			near(t, a, node, nil, 0, api.ErrArg)
			for _, count := range []int{0, 1, 2, 100, 101} {
				tour(t, a, allOf(node, count), 0, 0, api.ErrArg)
				near(t, a, 0, allOf(node, count), 0, api.ErrArg)
				near(t, a, node, allOf(node, count), 0, api.ErrArg)
			}
		}
	}
}

// P6.1 and P6.2: of several errors the one named first: ErrName ahead of ErrFull, and that ahead of ErrForm.
func TestFirstError(t *testing.T) {
	a := unlike(3)
	for _, none := range []int{-1, 3, math.MinInt, math.MaxInt} {
		for _, at := range []int{0, 1, 99, 100, 101, 199} {
			long := allOf(1, 200)
			long[at] = none
			tour(t, a, long, 0, 0, api.ErrName)
			near(t, a, 1, long, 0, api.ErrName)
			near(t, a, 2, long, 0, api.ErrName)
		}
		tour(t, a, allOf(none, 101), 0, 0, api.ErrName)
		near(t, a, none, allOf(1, 101), 0, api.ErrName)
		near(t, a, none, allOf(none, 101), 0, api.ErrName)
		near(t, a, none, allOf(none, 1), 0, api.ErrName)
		near(t, a, none, nil, 0, api.ErrName)
	}
	near(t, a, 1, allOf(1, 101), 0, api.ErrFull)
	near(t, a, 1, allOf(1, 100), 0, api.ErrForm)
}

// P6.1 and P6.2: all short lists, of nodes and of such as are none.
func TestAllShortLists(t *testing.T) {
	for n := 1; n <= 4; n++ {
		a := unlike(n)
		nodes := []int{-1}
		for node := range n + 1 {
			nodes = append(nodes, node)
		}
		for _, l := range lists(4, nodes...) {
			dist, time, e := wantTour(a, l)
			tour(t, a, l, dist, time, e)
			for _, to := range nodes {
				dist, e := wantNear(a, to, l)
				near(t, a, to, l, dist, e)
			}
		}
	}
}

// P6.1 and P6.2: drawn areas, some spoilt, and drawn lists, each asked twice: the same calls answer the same.
func TestDrawn(t *testing.T) {
	r := rand.New(rand.NewSource(2))
	for range 20000 {
		a := drawn(r, 1+r.Intn(16))
		if r.Intn(8) == 0 {
			a.Dist[r.Intn(len(a.Dist))] = drawnNumber(r) + 1
		}
		if r.Intn(8) == 0 {
			a.Time[r.Intn(len(a.Time))] = drawnNumber(r) - 1
		}
		l := make([]int, r.Intn(105)>>r.Intn(7))
		for i := range l {
			l[i] = r.Intn(a.N)
		}
		if len(l) > 0 && r.Intn(8) == 0 {
			l[r.Intn(len(l))] = r.Intn(3*a.N) - a.N
		}
		to := r.Intn(a.N)
		for range 2 {
			checks(t, "a drawn area", a, wantCheck(a))
			dist, time, e := wantTour(a, l)
			tour(t, a, l, dist, time, e)
			dist, e = wantNear(a, to, l)
			near(t, a, to, l, dist, e)
		}
	}
}

// P6.1 and P6.2: what stands behind a list, where it is a part of a longer one, is neither read nor changed.
func TestListsStayAsTheyWere(t *testing.T) {
	numbers := []int64{0, 3, 4, 0, 77, 78, 79}
	nodes := []int{1, 0, 1, 9, -1, 8, 7}
	a := api.Area{N: 2, Dist: numbers[:4], Time: numbers[:4]}
	keptNumbers, keptNodes := slices.Clone(numbers), slices.Clone(nodes)
	checks(t, "a part of a longer list", a, api.OK)
	leg(t, a, 1, 0, 4, 4, api.OK)
	tour(t, a, nodes[:3], 14, 14, api.OK)
	near(t, a, 1, nodes[:3], 3, api.OK)
	near(t, a, 0, nodes[:0], 0, api.ErrForm)
	tour(t, a, nodes[:4], 0, 0, api.ErrName)
	if !slices.Equal(numbers, keptNumbers) || !slices.Equal(nodes, keptNodes) {
		t.Errorf("behind the calls: %v, %v", numbers, nodes)
	}
}

// P6.1 and P6.2: nothing is kept: an area that was changed is told as it is now.
func TestNothingIsKept(t *testing.T) {
	a := unlike(3)
	nodes := []int{1, 2}
	tour(t, a, nodes, a.Dist[1]+a.Dist[5]+a.Dist[6], a.Time[1]+a.Time[5]+a.Time[6], api.OK)
	a.Dist[5], a.Time[5] = 500, 600
	tour(t, a, nodes, a.Dist[1]+500+a.Dist[6], a.Time[1]+600+a.Time[6], api.OK)
	leg(t, a, 1, 2, 500, 600, api.OK)
	near(t, a, 2, []int{1}, 500, api.OK)
	nodes[1] = 0
	tour(t, a, nodes, a.Dist[1]+a.Dist[3], a.Time[1]+a.Time[3], api.OK)
	a.Dist[4] = 1
	checks(t, "a number from a node to itself", a, api.ErrArg)
	tour(t, a, nodes, 0, 0, api.ErrArg)
	a.Dist[4] = 0
	checks(t, "none any more", a, api.OK)
}

// P6.3: a tour in two parts, by way of the depot, is the sum of both; with the way it has 100 nodes at most.
func TestTourInTwoParts(t *testing.T) {
	r := rand.New(rand.NewSource(3))
	for range 5000 {
		a := drawn(r, 1+r.Intn(16))
		nodes := make([]int, r.Intn(100))
		for i := range nodes {
			nodes[i] = r.Intn(a.N)
		}
		cut := r.Intn(len(nodes) + 1)
		twoParts(t, a, nodes[:cut], nodes[cut:])
	}
	a := unlike(16)
	for cut := range 100 {
		twoParts(t, a, allOf(3, cut), allOf(8, 99-cut))
	}
	both := slices.Concat(allOf(3, 50), []int{0}, allOf(8, 50))
	tour(t, a, both, 0, 0, api.ErrFull)
}

func twoParts(t *testing.T, a api.Area, first, second []int) {
	t.Helper()
	dist1, time1, e1 := area.Tour(a, first)
	dist2, time2, e2 := area.Tour(a, second)
	if e1 != api.OK || e2 != api.OK {
		t.Fatalf("parts %v, %v: %d, %d", first, second, e1, e2)
	}
	tour(t, a, slices.Concat(first, []int{0}, second), dist1+dist2, time1+time2, api.OK)
}

// P6.3: a tour is its legs, and none that goes from a node to another is less than Near tells; one of those that Near was asked is as much.
func TestLegsAreNotLessThanNear(t *testing.T) {
	r := rand.New(rand.NewSource(4))
	for range 2000 {
		a := drawn(r, 2+r.Intn(15))
		round := []int{0}
		for range r.Intn(30) {
			round = append(round, r.Intn(a.N))
		}
		var dist, time int64
		for i, from := range round {
			to := round[(i+1)%len(round)]
			d, x, e := area.Leg(a, from, to)
			if e != api.OK {
				t.Fatalf("Leg(%d, %d): %d", from, to, e)
			}
			dist, time = dist+d, time+x
			least, e := area.Near(a, to, round)
			if from != to && (e != api.OK || d < least) {
				t.Fatalf("Leg(%d, %d) is %d, Near(%d, %v) %d, %d", from, to, d, to, round, least, e)
			}
			if from != to && !slices.ContainsFunc(round, func(node int) bool {
				d, _, _ := area.Leg(a, node, to)
				return node != to && d == least
			}) {
				t.Fatalf("Near(%d, %v) is %d: no leg is", to, round, least)
			}
		}
		tour(t, a, round[1:], dist, time, api.OK)
	}
}
