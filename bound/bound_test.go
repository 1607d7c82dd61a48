package bound_test

import (
	"fmt"
	"math"
	"math/big"
	"math/rand"
	"reflect"
	"slices"
	"testing"

	"groupage/api"
	"groupage/better"
	"groupage/bound"
	"groupage/plan"
	"groupage/route"
	"groupage/savings"
)

// slope is an area of 13 nodes: from node i to node j it is 1000, 20 for each node up to i, and 1 for each up to j. So the nearest way to a node is that from the least other one, and the nearest way back that from the least one of all.
func slope() api.Area {
	a := api.Area{N: 13, Dist: make([]int64, 169), Time: make([]int64, 169)}
	for at := range a.Dist {
		if i, j := at/13, at%13; i != j {
			a.Dist[at] = int64(1000 + 20*i + j)
		}
	}
	return a
}

// plain is a world of 12 orders, of Ids 101 to 112, each at the node of its Id less 100 on the slope, and of three trucks, of which one has the least Rate, another the least Fixed. Neither orders nor trucks stand by their Ids.
func plain() api.World {
	w := api.World{Area: slope()}
	for i := range 12 {
		id := 101 + (i*5+4)%12
		w.Orders = append(w.Orders, api.Order{Id: id, Owner: i, Node: id - 100, Weight: 10, Volume: 10, To: 1000})
	}
	for _, x := range [][3]int64{{3, 70, 4}, {1, 90, 2}, {2, 50, 9}} {
		w.Trucks = append(w.Trucks, api.Truck{Id: int(x[0]), Weight: 1000, Volume: 1000, End: 1000, Fixed: x[1], Rate: x[2]})
	}
	return w
}

// flat lets all ways of a world be as far.
func flat(w api.World, dist int64) api.World {
	for at := range w.Area.Dist {
		if at/w.Area.N != at%w.Area.N {
			w.Area.Dist[at] = dist
		}
	}
	return w
}

// all are the Ids of plain.
func all() []int { return []int{101, 102, 103, 104, 105, 106, 107, 108, 109, 110, 111, 112} }

// order is where the order of an Id stands.
func order(w api.World, id int) *api.Order {
	return &w.Orders[slices.IndexFunc(w.Orders, func(o api.Order) bool { return o.Id == id })]
}

// way is where the distance from one node to another stands.
func way(w api.World, from, to int) *int64 { return &w.Area.Dist[from*w.Area.N+to] }

func copiedWorld(w api.World) api.World {
	w.Area.Dist, w.Area.Time = slices.Clone(w.Area.Dist), slices.Clone(w.Area.Time)
	w.Orders, w.Trucks = slices.Clone(w.Orders), slices.Clone(w.Trucks)
	return w
}

func copiedCert(c bound.Cert) bound.Cert {
	c.Ids, c.In = slices.Clone(c.Ids), slices.Clone(c.In)
	return c
}

func sameCert(c, d bound.Cert) bool {
	return slices.Equal(c.Ids, d.Ids) && slices.Equal(c.In, d.In) && c.Back == d.Back && c.Rate == d.Rate && c.Fixed == d.Fixed && c.Bound == d.Bound
}

// roomy is a list with room behind its end, which holds 77 there.
func roomy[T int | int64](l []T) []T {
	if l == nil {
		return nil
	}
	return append(slices.Clone(l), 77, 77)[:len(l)]
}

// kept tells that a roomy list is as it was, also behind its end.
func kept[T int | int64](l, was []T) bool {
	return slices.Equal(l, was) && (l == nil || slices.Equal(l[len(l):len(l)+2], []T{77, 77}))
}

// full is a certificate of the Bound that its other parts make.
func full(c bound.Cert) bound.Cert {
	dist := c.Back
	for _, n := range c.In {
		dist += n
	}
	c.Bound = c.Fixed + c.Rate*dist
	return c
}

// part is one number of a certificate, and what it is called.
type part struct {
	what  string
	where *int64
}

// parts are all numbers of a certificate but its Ids and its Bound.
func parts(c *bound.Cert) []part {
	l := []part{{"Back", &c.Back}, {"Rate", &c.Rate}, {"Fixed", &c.Fixed}}
	for at := range c.In {
		l = append(l, part{fmt.Sprint("In ", at), &c.In[at]})
	}
	return l
}

// nodes are those of some orders; none, if one is none of the world's.
func nodes(w api.World, ids []int) ([]int, bool) {
	var l []int
	for _, id := range ids {
		for _, o := range w.Orders {
			if o.Id == id {
				l = append(l, o.Node)
			}
		}
	}
	return l, len(l) == len(ids)
}

// limits are what each number of a certificate is up to, as the Words say: In, Back, Rate and Fixed, of at least one order.
func limits(w api.World, places []int) (in [][]int64, back, rate, fixed []int64) {
	for i, to := range places {
		l := []int64{w.Area.Dist[to]}
		for j, from := range places {
			if i != j {
				l = append(l, w.Area.Dist[from*w.Area.N+to])
			}
		}
		in = append(in, l)
		back = append(back, w.Area.Dist[to*w.Area.N])
	}
	for _, x := range w.Trucks {
		rate, fixed = append(rate, x.Rate), append(fixed, x.Fixed)
	}
	if len(w.Trucks) == 0 {
		rate, fixed = []int64{0}, []int64{0}
	}
	return in, back, rate, fixed
}

// wantMake is P12.1's Make.
func wantMake(w api.World, ids []int) (bound.Cert, api.Errno) {
	if e := route.World(w); e != api.OK {
		return bound.Cert{}, e
	}
	times := map[int]int{}
	for _, id := range ids {
		times[id]++
		if times[id] > 1 {
			return bound.Cert{}, api.ErrTwice
		}
	}
	rising := slices.Sorted(slices.Values(ids))
	places, there := nodes(w, rising)
	if !there {
		return bound.Cert{}, api.ErrName
	}
	if len(ids) == 0 {
		return bound.Cert{}, api.OK
	}
	in, back, rate, fixed := limits(w, places)
	c := bound.Cert{Ids: rising, Back: slices.Min(back), Rate: slices.Min(rate), Fixed: slices.Min(fixed)}
	for _, l := range in {
		c.In = append(c.In, slices.Min(l))
	}
	return full(c), api.OK
}

// fromTo tells whether a number is from 0 to each of some.
func fromTo(n int64, l []int64) bool {
	return n >= 0 && !slices.ContainsFunc(l, func(most int64) bool { return n > most })
}

// wantHolds is P12.1's Holds: what the Words say, one by one, by numbers of any size.
func wantHolds(w api.World, c bound.Cert) bool {
	if route.World(w) != api.OK || len(c.In) != len(c.Ids) {
		return false
	}
	if len(c.Ids) == 0 {
		return c.Back == 0 && c.Rate == 0 && c.Fixed == 0 && c.Bound == 0
	}
	for at := range c.Ids[1:] {
		if c.Ids[at] >= c.Ids[at+1] {
			return false
		}
	}
	places, there := nodes(w, c.Ids)
	if !there {
		return false
	}
	in, back, rate, fixed := limits(w, places)
	sum := big.NewInt(c.Back)
	for at, n := range c.In {
		if !fromTo(n, in[at]) {
			return false
		}
		sum.Add(sum, big.NewInt(n))
	}
	sum.Add(sum.Mul(sum, big.NewInt(c.Rate)), big.NewInt(c.Fixed))
	return fromTo(c.Back, back) && fromTo(c.Rate, rate) && fromTo(c.Fixed, fixed) && sum.Cmp(big.NewInt(c.Bound)) == 0
}

// fill writes one number all over a list's memory.
func fill[T int | int64](l []T, n T) {
	l = l[:cap(l)]
	for at := range l {
		l[at] = n
	}
}

// apart tells that two answers share nothing: each list is filled by a number of its own, which must be there when all are.
func apart(t *testing.T, what string, c, d bound.Cert) {
	t.Helper()
	fill(c.Ids, -1)
	fill(d.Ids, -2)
	fill(c.In, -1)
	fill(d.In, -2)
	if slices.Contains(c.Ids, -2) || slices.Contains(c.In, -2) {
		t.Errorf("Make of %s: two answers share something", what)
	}
}

// asked makes a certificate, twice, and holds what was given against what it was, when the answers are written all over.
func asked(t *testing.T, what string, w api.World, ids []int, want bound.Cert, e api.Errno) {
	t.Helper()
	was, l := copiedWorld(w), roomy(ids)
	c, f := bound.Make(w, l)
	d, g := bound.Make(w, l)
	if !sameCert(c, want) || f != e {
		t.Errorf("Make of %s, %v: %v, %d; asked %v, %d", what, ids, c, f, want, e)
	}
	if !sameCert(d, want) || g != e {
		t.Errorf("Make of %s, %v, again: %v, %d; asked %v, %d", what, ids, d, g, want, e)
	}
	if m, h := wantMake(w, ids); !sameCert(m, want) || h != e {
		t.Errorf("%s, %v: asked %v, %d, where the model tells %v, %d", what, ids, want, e, m, h)
	}
	apart(t, what, c, d)
	if !reflect.DeepEqual(w, was) || !kept(l, ids) {
		t.Errorf("Make of %s changed what it was given", what)
	}
}

// holds asks whether a certificate holds, twice, and holds what was given against what it was.
func holds(t *testing.T, what string, w api.World, c bound.Cert, want bool) {
	t.Helper()
	was, d := copiedWorld(w), c
	d.Ids, d.In = roomy(c.Ids), roomy(c.In)
	for range 2 {
		if bound.Holds(w, d) != want {
			t.Errorf("Holds of %s, %+v: %v", what, c, !want)
		}
	}
	if wantHolds(w, c) != want {
		t.Errorf("%s, %+v: asked %v, where the model tells other", what, c, want)
	}
	e := d
	e.Ids, e.In = c.Ids, c.In
	if !reflect.DeepEqual(w, was) || !sameCert(c, e) || !kept(d.Ids, c.Ids) || !kept(d.In, c.In) {
		t.Errorf("Holds of %s changed what it was given", what)
	}
}

// makes holds a certificate that is made, of at least one order, against what is wanted: it holds, and with any of its numbers one greater it doesn't.
func makes(t *testing.T, what string, w api.World, ids []int, want bound.Cert) {
	t.Helper()
	asked(t, what, w, ids, want, api.OK)
	holds(t, what, w, want, true)
	for at := range parts(&want) {
		c := copiedCert(want)
		x := parts(&c)[at]
		*x.where++
		holds(t, what+", one more of "+x.what, w, full(c), false)
	}
}

// fails holds that no certificate is made.
func fails(t *testing.T, what string, w api.World, ids []int, e api.Errno) {
	t.Helper()
	asked(t, what, w, ids, bound.Cert{}, e)
}

// P12.1: in a world that may not be its error comes first, whatever the Ids are, and nothing holds.
func TestBadWorld(t *testing.T) {
	for what, c := range map[string]struct {
		change func(*api.World)
		e      api.Errno
	}{
		"nothing":               {func(w *api.World) { *w = api.World{} }, api.ErrArg},
		"no nodes":              {func(w *api.World) { w.Area = api.Area{} }, api.ErrArg},
		"nodes below 0":         {func(w *api.World) { w.Area.N = -13 }, api.ErrArg},
		"17 nodes":              {func(w *api.World) { w.Area = api.Area{N: 17, Dist: make([]int64, 289), Time: make([]int64, 289)} }, api.ErrArg},
		"a distance less":       {func(w *api.World) { w.Area.Dist = w.Area.Dist[:168] }, api.ErrArg},
		"a time more":           {func(w *api.World) { w.Area.Time = append(w.Area.Time, 0) }, api.ErrArg},
		"a distance too great":  {func(w *api.World) { *way(*w, 1, 2) = 1000001 }, api.ErrArg},
		"a distance below 0":    {func(w *api.World) { *way(*w, 5, 0) = -1 }, api.ErrArg},
		"a time below 0":        {func(w *api.World) { w.Area.Time[1] = -1 }, api.ErrArg},
		"a way to itself":       {func(w *api.World) { *way(*w, 1, 1) = 1 }, api.ErrArg},
		"13 orders":             {func(w *api.World) { w.Orders = append(w.Orders, w.Orders[0]); w.Orders[12].Id = 113 }, api.ErrFull},
		"7 trucks":              {func(w *api.World) { w.Trucks = append(w.Trucks, w.Trucks...); w.Trucks = append(w.Trucks, w.Trucks[0]) }, api.ErrFull},
		"an order at the depot": {func(w *api.World) { w.Orders[11].Node = 0 }, api.ErrArg},
		"an order of no node":   {func(w *api.World) { w.Orders[0].Node = 13 }, api.ErrArg},
		"an order of no weight": {func(w *api.World) { w.Orders[0].Weight = 0 }, api.ErrArg},
		"a truck of no Id":      {func(w *api.World) { w.Trucks[2].Id = 0 }, api.ErrArg},
		"a Rate too great":      {func(w *api.World) { w.Trucks[0].Rate = 1001 }, api.ErrArg},
		"a Fixed below 0":       {func(w *api.World) { w.Trucks[0].Fixed = -1 }, api.ErrArg},
		"two orders alike":      {func(w *api.World) { w.Orders[11].Id = w.Orders[0].Id }, api.ErrTwice},
		"two trucks alike":      {func(w *api.World) { w.Trucks[2].Id = w.Trucks[0].Id }, api.ErrTwice},
		"all errors": {func(w *api.World) {
			w.Area.N = 0
			w.Orders = append(w.Orders, w.Orders...)
		}, api.ErrArg},
		"too many orders, that may not be": {func(w *api.World) {
			w.Orders = append(w.Orders, w.Orders...)
			w.Orders[0].Node = 0
		}, api.ErrFull},
		"two orders alike, and a truck that may not be": {func(w *api.World) {
			w.Orders[11].Id = w.Orders[0].Id
			w.Trucks[0].Fixed = -1
		}, api.ErrArg},
	} {
		w := plain()
		c.change(&w)
		if e := route.World(w); e != c.e {
			t.Fatalf("%s: the world's error is %d", what, e)
		}
		for _, ids := range [][]int{nil, {}, {101}, {102, 101}, {101, 101}, {9}, {9, 9}, {101, 9, 101}, all()} {
			fails(t, "a world of "+what, w, ids, c.e)
			good, _ := wantMake(plain(), ids)
			holds(t, "a world of "+what, w, good, false)
		}
	}
}

// P12.1: ErrTwice, whichever two are the same, and however many others there are, also of such as are none of the world's; ahead of ErrName.
func TestTwice(t *testing.T) {
	w := plain()
	for i := range 12 {
		for j := range 12 {
			if i != j {
				ids := all()
				ids[i] = ids[j]
				fails(t, "two the same", w, ids, api.ErrTwice)
				ids[(i+j)%12] = 9
				if slices.Contains(ids[:i], ids[i]) || slices.Contains(ids[i+1:], ids[i]) {
					fails(t, "two the same, and none of the world's", w, ids, api.ErrTwice)
				}
			}
		}
	}
	for _, ids := range [][]int{{101, 101}, {105, 105, 105}, {112, 101, 112}, {9, 9}, {0, 0}, {-3, 101, -3}, {9, 101, 101}, {101, 101, 9}, {9, 101, 9}, {101, 9, 101}, {200, 102, 102, 9}, append(all(), 112), append(all(), 101, 9), append(all(), 9, 9), {math.MinInt, math.MaxInt, math.MinInt}} {
		fails(t, "two the same", w, ids, api.ErrTwice)
	}
	w.Orders, w.Trucks = nil, nil
	fails(t, "two the same, and no orders", w, []int{101, 101}, api.ErrTwice)
}

// P12.1: ErrName, whichever is none of the world's, also if the Ids are more than orders may be.
func TestNone(t *testing.T) {
	w := plain()
	for _, id := range []int{9, 0, -1, -101, 1, 100, 113, 1000, math.MinInt, math.MaxInt, 101 + 1<<32} {
		fails(t, "none of the world's", w, []int{id}, api.ErrName)
		fails(t, "none of the world's, first", w, []int{id, 101, 102}, api.ErrName)
		fails(t, "none of the world's, last", w, []int{102, 101, id}, api.ErrName)
		fails(t, "none of the world's, between", w, []int{102, id, 101}, api.ErrName)
		fails(t, "none of the world's, behind all", w, append(all(), id), api.ErrName)
	}
	fails(t, "several of none", w, []int{9, 101, 8, 7}, api.ErrName)
	fails(t, "trucks' Ids", w, []int{1, 2, 3}, api.ErrName)
	w.Orders = w.Orders[:3] // 105, 110, 103
	fails(t, "an order that is there no more", w, []int{103, 105, 106}, api.ErrName)
	w.Orders = nil
	fails(t, "no orders", w, []int{101}, api.ErrName)
}

// P12.1, R1: long lists, that rise, fall, or have two the same at their ends, are answered at once.
func TestLongLists(t *testing.T) {
	const n = 500000
	w := plain()
	up, down := make([]int, n), make([]int, n)
	for at := range n {
		up[at], down[at] = at, n-at
	}
	fails(t, "all from 0 on", w, up, api.ErrName)
	fails(t, "all down to 1", w, down, api.ErrName)
	up[n-1], down[n-1] = 0, n
	fails(t, "all from 0 on, and 0", w, up, api.ErrTwice)
	fails(t, "all down to 1, and the first", w, down, api.ErrTwice)
	holds(t, "an Id for each number", w, bound.Cert{Ids: up, In: make([]int64, n)}, false)
	holds(t, "an In of many", w, bound.Cert{Ids: []int{101}, In: make([]int64, n)}, false)
	holds(t, "an In of many, of no Ids", w, bound.Cert{In: make([]int64, n)}, false)
}

// P12.1: of no Ids, an empty list or none, all is 0, whatever the trucks cost; nothing else holds of them.
func TestNoIds(t *testing.T) {
	bare := api.World{Area: api.Area{N: 1, Dist: []int64{0}, Time: []int64{0}}}
	fleet := bare
	fleet.Trucks = plain().Trucks
	for what, w := range map[string]api.World{"plain": plain(), "a depot alone": bare, "a depot and trucks": fleet} {
		for _, ids := range [][]int{nil, {}} {
			asked(t, what, w, ids, bound.Cert{}, api.OK)
			for _, in := range [][]int64{nil, {}} {
				holds(t, what, w, bound.Cert{Ids: ids, In: in}, true)
			}
			holds(t, what+", an In of 0", w, bound.Cert{Ids: ids, In: []int64{0}}, false)
			holds(t, what+", two of In", w, bound.Cert{Ids: ids, In: []int64{1, 2}}, false)
			for _, n := range []int64{1, -1, 2, 50, 1020, math.MaxInt64, math.MinInt64} {
				holds(t, what+", a Bound", w, bound.Cert{Ids: ids, Bound: n}, false)
				holds(t, what+", a Back", w, bound.Cert{Ids: ids, Back: n}, false)
				holds(t, what+", a Rate", w, bound.Cert{Ids: ids, Rate: n}, false)
				holds(t, what+", a Fixed", w, bound.Cert{Ids: ids, Fixed: n}, false)
				holds(t, what+", a Fixed, and the Bound of that", w, bound.Cert{Ids: ids, Fixed: n, Bound: n}, false)
			}
			holds(t, what+", a Back and a Rate, and the Bound of that", w, bound.Cert{Ids: ids, Back: 3, Rate: 2, Bound: 6}, false)
			holds(t, what+", all that is below 0", w, bound.Cert{Ids: ids, Back: -3, Rate: -2, Fixed: -6, Bound: 0}, false)
		}
	}
}

// P12.1: the document's example.
func TestExample(t *testing.T) {
	w := api.World{
		Area:   api.Area{N: 2, Dist: []int64{0, 5, 6, 0}, Time: []int64{0, 50, 60, 0}},
		Orders: []api.Order{{Id: 7, Node: 1, Weight: 1, Volume: 1}},
		Trucks: []api.Truck{{Id: 1, Weight: 1, Volume: 1, Fixed: 4, Rate: 2}},
	}
	makes(t, "the example", w, []int{7}, bound.Cert{Ids: []int{7}, In: []int64{5}, Back: 6, Rate: 2, Fixed: 4, Bound: 26})
}

// P12.1: of one order, two, and all; only ways from the depot, and from others of the Ids, count, and of trucks the least Rate and the least Fixed.
func TestMake(t *testing.T) {
	w := plain()
	for id := 101; id <= 112; id++ {
		out, back := int64(1000+id-100), int64(1000+20*(id-100))
		makes(t, "one", w, []int{id}, bound.Cert{Ids: []int{id}, In: []int64{out}, Back: back, Rate: 2, Fixed: 50, Bound: 50 + 2*(out+back)})
	}
	makes(t, "two", w, []int{103, 107}, bound.Cert{Ids: []int{103, 107}, In: []int64{1003, 1007}, Back: 1060, Rate: 2, Fixed: 50, Bound: 6190})
	makes(t, "all", w, all(), bound.Cert{Ids: all(), In: []int64{1001, 1002, 1003, 1004, 1005, 1006, 1007, 1008, 1009, 1010, 1011, 1012}, Back: 1020, Rate: 2, Fixed: 50, Bound: 26246})
	for node := range 12 {
		*way(w, 0, node+1) = 9000
	}
	makes(t, "one, farther from the depot", w, []int{103}, bound.Cert{Ids: []int{103}, In: []int64{9000}, Back: 1060, Rate: 2, Fixed: 50, Bound: 20170})
	makes(t, "two, nearer to each other", w, []int{103, 107}, bound.Cert{Ids: []int{103, 107}, In: []int64{1143, 1067}, Back: 1060, Rate: 2, Fixed: 50, Bound: 6590})
	makes(t, "three, nearer to the first one", w, []int{103, 107, 112}, bound.Cert{Ids: []int{103, 107, 112}, In: []int64{1143, 1067, 1072}, Back: 1060, Rate: 2, Fixed: 50, Bound: 8734})
	makes(t, "all, nearer to the first one", w, all(), bound.Cert{Ids: all(), In: []int64{1041, 1022, 1023, 1024, 1025, 1026, 1027, 1028, 1029, 1030, 1031, 1032}, Back: 1020, Rate: 2, Fixed: 50, Bound: 26766})
	*way(w, 0, 7) = 1066
	makes(t, "one of two, nearer to the depot by 1", w, []int{103, 107}, bound.Cert{Ids: []int{103, 107}, In: []int64{1143, 1066}, Back: 1060, Rate: 2, Fixed: 50, Bound: 6588})
}

// P12.1: distances, and not times, count, each in its direction: in to an order, back from it.
func TestDirections(t *testing.T) {
	w := plain()
	w.Area = api.Area{N: 4, Dist: []int64{
		0, 90, 80, 70,
		21, 0, 32, 1,
		20, 41, 0, 1,
		2, 1, 1, 0,
	}, Time: []int64{0, 1, 1, 1, 1, 0, 1, 1, 1, 1, 0, 1, 1, 1, 1, 0}}
	w.Orders = []api.Order{{Id: 8, Node: 2, Weight: 1, Volume: 1}, {Id: 5, Node: 1, Weight: 1, Volume: 1}}
	makes(t, "one", w, []int{5}, bound.Cert{Ids: []int{5}, In: []int64{90}, Back: 21, Rate: 2, Fixed: 50, Bound: 272})
	makes(t, "the other one", w, []int{8}, bound.Cert{Ids: []int{8}, In: []int64{80}, Back: 20, Rate: 2, Fixed: 50, Bound: 250})
	makes(t, "both", w, []int{8, 5}, bound.Cert{Ids: []int{5, 8}, In: []int64{41, 32}, Back: 20, Rate: 2, Fixed: 50, Bound: 236})
	*way(w, 0, 1), *way(w, 1, 0) = 40, 19
	makes(t, "both, one of them near", w, []int{8, 5}, bound.Cert{Ids: []int{5, 8}, In: []int64{40, 32}, Back: 19, Rate: 2, Fixed: 50, Bound: 232})
	*way(w, 2, 0), *way(w, 0, 2) = 0, 0
	makes(t, "both, the other one at no distance", w, []int{8, 5}, bound.Cert{Ids: []int{5, 8}, In: []int64{40, 0}, Back: 0, Rate: 2, Fixed: 50, Bound: 130})
}

// P12.1: two orders at one node are 0 from one another, and a third one is as far from both; one that isn't told doesn't count.
func TestSameNode(t *testing.T) {
	w := plain()
	order(w, 104).Node = 2 // as 102
	makes(t, "two at one node", w, []int{104, 102}, bound.Cert{Ids: []int{102, 104}, In: []int64{0, 0}, Back: 1040, Rate: 2, Fixed: 50, Bound: 2130})
	makes(t, "one of them", w, []int{104}, bound.Cert{Ids: []int{104}, In: []int64{1002}, Back: 1040, Rate: 2, Fixed: 50, Bound: 4134})
	makes(t, "two, and one elsewhere", w, []int{101, 104, 102}, bound.Cert{Ids: []int{101, 102, 104}, In: []int64{1001, 0, 0}, Back: 1020, Rate: 2, Fixed: 50, Bound: 4092})
	makes(t, "one of them, and one elsewhere", w, []int{105, 104}, bound.Cert{Ids: []int{104, 105}, In: []int64{1002, 1005}, Back: 1040, Rate: 2, Fixed: 50, Bound: 6144})
	order(w, 111).Node = 2
	order(w, 112).Node = 5 // as 105
	makes(t, "three at one node", w, []int{111, 104, 102}, bound.Cert{Ids: []int{102, 104, 111}, In: []int64{0, 0, 0}, Back: 1040, Rate: 2, Fixed: 50, Bound: 2130})
	makes(t, "two at each of two nodes", w, []int{112, 111, 105, 102}, bound.Cert{Ids: []int{102, 105, 111, 112}, In: []int64{0, 0, 0, 0}, Back: 1040, Rate: 2, Fixed: 50, Bound: 2130})
	for _, id := range all() {
		order(w, id).Node = 12
	}
	makes(t, "all at one node", w, all(), bound.Cert{Ids: all(), In: make([]int64, 12), Back: 1240, Rate: 2, Fixed: 50, Bound: 2530})
}

// P12.1: the nearest node that is one of the Ids' counts, from whichever place of them; nearer ones that aren't do not.
func TestNearest(t *testing.T) {
	for near := 101; near <= 112; near++ {
		w := flat(plain(), 500)
		for from := 1; from <= 12; from++ {
			if from != 6 {
				*way(w, from, 6) = 400
			}
		}
		*way(w, near-100, 0) = 30
		if near != 106 {
			*way(w, near-100, 6) = 20
		}
		in := []int64{500, 500, 500, 500, 500, 20, 500, 500, 500, 500, 500, 500}
		if near == 106 {
			in[5] = 400
		}
		dist := 5500 + in[5] + 30
		makes(t, fmt.Sprint("all, the nearest one ", near), w, all(), bound.Cert{Ids: all(), In: in, Back: 30, Rate: 2, Fixed: 50, Bound: 50 + 2*dist})
		others := slices.DeleteFunc(all(), func(id int) bool { return id == near })
		in = []int64{500, 500, 500, 500, 500, 500, 500, 500, 500, 500, 500}
		if at := slices.Index(others, 106); at >= 0 {
			in[at] = 400
		}
		want := full(bound.Cert{Ids: others, In: in, Back: 500, Rate: 2, Fixed: 50})
		makes(t, fmt.Sprint("all but the nearest one ", near), w, others, want)
	}
}

// P12.1: no truck, one, several, of whichever the least Rate and the least Fixed are; who could serve the orders, or when, doesn't count.
func TestTrucks(t *testing.T) {
	w := flat(plain(), 100)
	one := func(rate, fixed, sum int64) bound.Cert {
		return bound.Cert{Ids: []int{101, 102}, In: []int64{100, 100}, Back: 100, Rate: rate, Fixed: fixed, Bound: sum}
	}
	ids := []int{101, 102}
	fleet := w.Trucks
	for _, l := range [][]api.Truck{nil, {}} {
		w.Trucks = l
		makes(t, "no trucks", w, ids, one(0, 0, 0))
	}
	w.Trucks = fleet[:1]
	makes(t, "one truck", w, ids, one(4, 70, 1270))
	w.Trucks = fleet[1:2]
	makes(t, "another one", w, ids, one(2, 90, 690))
	w.Trucks = fleet[:2]
	makes(t, "two", w, ids, one(2, 70, 670))
	w.Trucks = fleet
	makes(t, "three", w, ids, one(2, 50, 650))
	for i := range 6 {
		for j := range 6 {
			w.Trucks = nil
			for id := range 6 {
				w.Trucks = append(w.Trucks, api.Truck{Id: 6 - id, Weight: 1, Volume: 1, Fixed: 1000000, Rate: 1000})
			}
			makes(t, "six of the dearest", w, ids, one(1000, 1000000, 1300000))
			w.Trucks[i].Rate, w.Trucks[j].Fixed = 999, 999999
			makes(t, fmt.Sprint("six, cheaper ones at ", i, j), w, ids, one(999, 999999, 1299699))
			w.Trucks[i].Rate = 0
			makes(t, fmt.Sprint("six, of which one goes for nothing, ", i), w, ids, one(0, 999999, 999999))
			w.Trucks[i].Rate, w.Trucks[j].Fixed = 1, 0
			makes(t, fmt.Sprint("six, of which one stands for nothing, ", i), w, ids, one(1, 0, 300))
		}
	}
}

// P12.1: Ids in whichever order make the same.
func TestOrderOfIds(t *testing.T) {
	w := plain()
	want := bound.Cert{Ids: []int{101, 104, 105, 112}, In: []int64{1001, 1004, 1005, 1012}, Back: 1020, Rate: 2, Fixed: 50, Bound: 10134}
	for _, ids := range turns([]int{112, 101, 105, 104}) {
		makes(t, "four", w, ids, want)
	}
	want = bound.Cert{Ids: all(), In: []int64{1001, 1002, 1003, 1004, 1005, 1006, 1007, 1008, 1009, 1010, 1011, 1012}, Back: 1020, Rate: 2, Fixed: 50, Bound: 26246}
	ids := all()
	slices.Reverse(ids)
	makes(t, "all, falling", w, ids, want)
	r := rand.New(rand.NewSource(1))
	for range 20 {
		r.Shuffle(12, func(i, j int) { ids[i], ids[j] = ids[j], ids[i] })
		makes(t, "all, mixed", w, ids, want)
	}
	slices.Reverse(w.Orders)
	slices.Reverse(w.Trucks)
	makes(t, "all, of a world that is turned", w, ids, want)
}

// turns are all orders of a list.
func turns(l []int) [][]int {
	if len(l) == 0 {
		return [][]int{nil}
	}
	var all [][]int
	for at, n := range l {
		for _, rest := range turns(slices.Delete(slices.Clone(l), at, at+1)) {
			all = append(all, append(rest, n))
		}
	}
	return all
}

// P12.1: the greatest numbers that a world may have, and the least.
func TestGreatest(t *testing.T) {
	w := flat(plain(), 1000000)
	for at := range w.Trucks {
		w.Trucks[at].Rate, w.Trucks[at].Fixed = 1000, 1000000
	}
	in := slices.Repeat([]int64{1000000}, 12)
	makes(t, "the greatest", w, all(), bound.Cert{Ids: all(), In: in, Back: 1000000, Rate: 1000, Fixed: 1000000, Bound: 13001000000})
	w = flat(w, 0)
	makes(t, "no distances", w, all(), bound.Cert{Ids: all(), In: make([]int64, 12), Rate: 1000, Fixed: 1000000, Bound: 1000000})
	w = flat(plain(), 1)
	for at, id := range all() {
		order(w, id).Id = 999989 + at
	}
	w.Orders[0].Id = 1 // was 105
	ids := []int{999989, 999990, 999991, 999992, 1, 999994, 999995, 999996, 999997, 999998, 999999, 1000000}
	want := bound.Cert{Ids: slices.Sorted(slices.Values(ids)), In: slices.Repeat([]int64{1}, 12), Back: 1, Rate: 2, Fixed: 50, Bound: 76}
	makes(t, "the greatest Ids, and the least", w, ids, want)
}

// P12.1: of a certificate that is made each part may be anything from 0 on up to what it is; its Bound is what they make, no less and no more.
func TestHoldsParts(t *testing.T) {
	w := plain()
	for _, ids := range [][]int{{106}, {102, 107}, {101, 105, 112}, all()} {
		made, _ := wantMake(w, ids)
		for at := range parts(&made) {
			most := *parts(&made)[at].where
			for _, n := range []int64{0, 1, most / 2, most - 1} {
				c := copiedCert(made)
				x := parts(&c)[at]
				*x.where = n
				holds(t, x.what+" less", w, full(c), true)
				holds(t, x.what+" less, the Bound as before", w, c, false)
			}
			for _, n := range []int64{-1, -most, -1000000, most + 1, 1000001, math.MaxInt64, math.MinInt64} {
				c := copiedCert(made)
				x := parts(&c)[at]
				*x.where = n
				holds(t, x.what+" below 0, or too great", w, full(c), false)
				holds(t, x.what+" below 0, or too great, the Bound as before", w, c, false)
			}
		}
		for _, more := range []int64{1, -1, 2, 50, -50, -made.Bound, 1 << 32, -2 * made.Bound, math.MinInt64} {
			c := copiedCert(made)
			c.Bound += more
			holds(t, fmt.Sprint("a Bound of ", more, " more"), w, c, false)
		}
		c := bound.Cert{Ids: made.Ids, In: make([]int64, len(made.In))}
		holds(t, "all of 0", w, c, true)
		c.Bound = 1
		holds(t, "all of 0, and a Bound", w, c, false)
		c.Bound = -1
		holds(t, "all of 0, and a Bound below 0", w, c, false)
	}
}

// P12.1: Fixed counts once, the Rate for each of In and for Back; nothing else is their Bound.
func TestHoldsBound(t *testing.T) {
	w := plain()
	ids, in := []int{101, 102, 103}, []int64{300, 70, 5}
	for n := range int64(1500) {
		c := bound.Cert{Ids: ids, In: in, Back: 40, Rate: 2, Fixed: 11, Bound: n}
		holds(t, "some parts", w, c, n == 841) // 11 and 2 times 415
	}
	holds(t, "no Rate", w, bound.Cert{Ids: ids, In: in, Back: 40, Fixed: 11, Bound: 11}, true)
	holds(t, "no Rate, the distances as the Bound", w, bound.Cert{Ids: ids, In: in, Back: 40, Fixed: 11, Bound: 426}, false)
	holds(t, "no Fixed", w, bound.Cert{Ids: ids, In: in, Back: 40, Rate: 1, Bound: 415}, true)
	holds(t, "parts that go out", w, bound.Cert{Ids: ids, In: []int64{300, -300, 5}, Back: 40, Rate: 1, Bound: 45}, false)
}

// P12.1: what others may be made of doesn't hold: of Ids that fall, that are there twice, or none of the world's, or of another world.
func TestHoldsIds(t *testing.T) {
	w := plain()
	for _, l := range turns([]int{101, 104, 105, 112}) {
		rising := slices.IsSorted(l)
		holds(t, "Ids in an order", w, bound.Cert{Ids: l, In: []int64{1, 1, 1, 1}, Back: 1, Rate: 1, Fixed: 1, Bound: 6}, rising)
		holds(t, "Ids in an order, and all others 0", w, bound.Cert{Ids: l, In: make([]int64, 4)}, rising)
	}
	for _, l := range [][]int{{101, 101}, {101, 112, 112}, {101, 101, 112}, {101, 112, 101}, {9}, {0}, {-1}, {101, 113}, {100, 101}, {101, 9}, {9, 101}, {9, 9}, {-5, -5}, {math.MinInt, math.MaxInt}, append(all(), 113), append(all(), 112), append([]int{100}, all()...)} {
		holds(t, "Ids that aren't such", w, bound.Cert{Ids: l, In: make([]int64, len(l))}, false)
	}
	holds(t, "all", w, bound.Cert{Ids: all(), In: make([]int64, 12)}, true)
	made, _ := wantMake(w, all())
	less := copiedWorld(w)
	less.Orders = less.Orders[1:]
	holds(t, "where one order is no more", less, made, false)
	made, _ = wantMake(w, []int{101, 102})
	less = copiedWorld(w)
	less.Orders = slices.DeleteFunc(less.Orders, func(o api.Order) bool { return o.Id > 102 })
	holds(t, "where other orders are no more", less, made, true)
	near := copiedWorld(w)
	*way(near, 102-100, 1) = 3
	holds(t, "where another way is nearer", near, made, false)
	*way(near, 102-100, 1) = 1001
	holds(t, "where it is as near", near, made, true)
	*way(near, 3, 1), *way(near, 3, 0) = 0, 0
	holds(t, "where a way is nearer that isn't from one of them", near, made, true)
}

// P12.1: In has a number for each Id.
func TestHoldsIn(t *testing.T) {
	w := plain()
	for n := 1; n <= 12; n++ {
		for m := range 15 {
			holds(t, "numbers of In", w, bound.Cert{Ids: all()[:n], In: make([]int64, m)}, n == m)
		}
		made, _ := wantMake(w, all()[:n])
		few, many, ahead := copiedCert(made), copiedCert(made), copiedCert(made)
		few.In = few.In[:n-1]
		many.In = append(many.In, 0)
		ahead.In = append([]int64{0}, ahead.In...)
		holds(t, "one of In too few", w, full(few), false)
		holds(t, "one of In too many", w, full(many), false)
		holds(t, "one of In ahead", w, full(ahead), false)
	}
	holds(t, "none of In, for one", w, bound.Cert{Ids: []int{101}}, false)
}

// P12.1, R1: numbers so great that what they make wraps, and would be their Bound then.
func TestHoldsGreat(t *testing.T) {
	w := plain()
	great := []int64{math.MaxInt64, math.MinInt64, math.MinInt64 + 1, 1 << 62, -1 << 62, 1<<62 - 1, 1 << 32, -1 << 32, 1 << 61, 3 << 61}
	ids := []int{101, 102}
	for _, a := range great {
		for _, b := range append(great, 0, 1, 2, 4) {
			for _, c := range []bound.Cert{
				{In: []int64{a, b}},
				{In: []int64{a, b}, Rate: 1},
				{In: []int64{b, a}, Rate: 2, Fixed: 50},
				{In: []int64{a, 0}, Back: b, Rate: 2},
				{In: []int64{1, 1}, Back: a, Rate: b},
				{In: []int64{0, b}, Rate: a},
				{In: []int64{1, b}, Rate: 1, Fixed: a},
				{In: []int64{a, b}, Back: a, Rate: b, Fixed: a},
			} {
				c.Ids = ids
				holds(t, "great numbers", w, full(c), false)
				c.Bound = a
				holds(t, "great numbers, and a Bound as great", w, c, false)
				c.Bound = 0
				holds(t, "great numbers, and no Bound", w, c, false)
			}
		}
		holds(t, "a great Bound", w, bound.Cert{Ids: ids, In: []int64{1, 1}, Back: 1, Rate: 1, Bound: a}, false)
		holds(t, "a great Bound, that is right but for more than 64 bits", w, bound.Cert{Ids: ids, In: []int64{4, 0}, Rate: 1 << 62, Fixed: 7, Bound: 7}, false)
	}
}

// drawnWorld is a world of up to n orders and up to m trucks, in which few distances are the same both ways, and some orders are at one node.
func drawnWorld(r *rand.Rand, n, m int) api.World {
	w := api.World{Area: api.Area{N: 2 + r.Intn(n)}}
	most := 1 + r.Int63n(200)
	for at := range w.Area.N * w.Area.N {
		if at/w.Area.N == at%w.Area.N {
			w.Area.Dist, w.Area.Time = append(w.Area.Dist, 0), append(w.Area.Time, 0)
			continue
		}
		w.Area.Dist = append(w.Area.Dist, r.Int63n(most))
		w.Area.Time = append(w.Area.Time, r.Int63n(9))
	}
	for i := range r.Intn(n + 1) {
		from := r.Int63n(30)
		w.Orders = append(w.Orders, api.Order{Id: 1 + i*3 + r.Intn(3), Node: 1 + r.Intn(w.Area.N-1), Weight: 1 + r.Int63n(9), Volume: 1 + r.Int63n(9), From: from, To: from + r.Int63n(100)})
	}
	for i := range r.Intn(m + 1) {
		w.Trucks = append(w.Trucks, api.Truck{Id: 1 + i, Weight: 8 + r.Int63n(60), Volume: 8 + r.Int63n(60), End: 40 + r.Int63n(200), Fixed: r.Int63n(300), Rate: r.Int63n(9)})
	}
	r.Shuffle(len(w.Orders), func(i, j int) { w.Orders[i], w.Orders[j] = w.Orders[j], w.Orders[i] })
	r.Shuffle(len(w.Trucks), func(i, j int) { w.Trucks[i], w.Trucks[j] = w.Trucks[j], w.Trucks[i] })
	return w
}

// drawnIds are Ids of a drawn world: most often of its own.
func drawnIds(r *rand.Rand, w api.World) []int {
	var l []int
	for _, at := range r.Perm(len(w.Orders))[:r.Intn(len(w.Orders)+1)] {
		l = append(l, w.Orders[at].Id)
	}
	for r.Intn(6) == 0 {
		l = append(l, r.Intn(40))
	}
	if len(l) > 0 && r.Intn(10) == 0 {
		l = append(l, l[r.Intn(len(l))])
	}
	return l
}

// lowered is a certificate of some parts less than one that is made, that still holds.
func lowered(r *rand.Rand, c bound.Cert) bound.Cert {
	c = copiedCert(c)
	if len(c.Ids) > 0 {
		for _, x := range parts(&c) {
			if r.Intn(3) == 0 {
				*x.where = r.Int63n(*x.where + 1)
			}
		}
	}
	return full(c)
}

// spoilt is a certificate one of whose numbers is another one, or whose lists are; whether it holds is open.
func spoilt(r *rand.Rand, c bound.Cert) bound.Cert {
	c = copiedCert(c)
	l := append(parts(&c), part{"Bound", &c.Bound})
	x := l[r.Intn(len(l))]
	*x.where += r.Int63n(7) - 3
	switch r.Intn(8) {
	case 0:
		c.In = append(c.In, 0)
	case 1:
		c.Ids = append(c.Ids, 40)
	case 2:
		r.Shuffle(len(c.Ids), func(i, j int) { c.Ids[i], c.Ids[j] = c.Ids[j], c.Ids[i] })
	case 3:
		*x.where = r.Int63() - r.Int63()
	case 4:
		return c
	}
	return full(c)
}

// P12.1, P12.2: drawn worlds and Ids: what is made holds, and no other that holds has a greater Bound.
func TestDrawn(t *testing.T) {
	r := rand.New(rand.NewSource(2))
	seen, held := map[api.Errno]int{}, map[bool]int{}
	for range 6000 {
		w := drawnWorld(r, 12, 6)
		if r.Intn(20) == 0 {
			w.Area.Time[0] = 1
		}
		ids := drawnIds(r, w)
		want, e := wantMake(w, ids)
		seen[e]++
		asked(t, "a drawn world", w, ids, want, e)
		if e != api.OK {
			holds(t, "a drawn world that may not be, or of no orders", w, bound.Cert{Ids: ids, In: make([]int64, len(ids))}, wantHolds(w, bound.Cert{Ids: ids, In: make([]int64, len(ids))}))
			continue
		}
		holds(t, "what is made", w, want, true)
		for range 3 {
			holds(t, "what is lowered", w, lowered(r, want), true)
			c := spoilt(r, lowered(r, want))
			is := wantHolds(w, c)
			held[is]++
			holds(t, "what is spoilt", w, c, is)
			if is && c.Bound > want.Bound {
				t.Fatalf("%v holds, where %v is made", c, want)
			}
		}
	}
	for _, e := range []api.Errno{api.OK, api.ErrArg, api.ErrTwice, api.ErrName} {
		if seen[e] < 100 {
			t.Errorf("only %d drawn Ids answer %d", seen[e], e)
		}
	}
	if held[true] < 1000 || held[false] < 1000 {
		t.Errorf("only %d spoilt ones hold, only %d don't", held[true], held[false])
	}
}

// plans goes through all plans that may be of a world, and what they cost: order by order, each is left, or put at each place of each truck's route.
func plans(w api.World, each func(p api.Plan, cost int64)) {
	routes := make([][]int, len(w.Trucks))
	var put func(at int)
	put = func(at int) {
		if at == len(w.Orders) {
			var p api.Plan
			for i, stops := range routes {
				if len(stops) > 0 {
					p.Routes = append(p.Routes, api.Route{Truck: w.Trucks[i].Id, Stops: stops})
				}
			}
			p.Unserved = plan.Rest(w, p)
			if cost, e := plan.Check(w, p); e == api.OK {
				each(p, cost)
			}
			return
		}
		put(at + 1)
		for i, stops := range routes {
			for place := range len(stops) + 1 {
				routes[i] = slices.Insert(slices.Clone(stops), place, w.Orders[at].Id)
				put(at + 1)
			}
			routes[i] = stops
		}
	}
	put(0)
}

// P12.2: in small worlds the Bound of what holds is at most the cost of every plan that may be and serves just its orders; some cost no more than the Bound of what is made.
func TestAllPlans(t *testing.T) {
	r := rand.New(rand.NewSource(3))
	all, just, served := 0, 0, 0
	for range 500 {
		w := drawnWorld(r, 4, 3)
		plans(w, func(p api.Plan, cost int64) {
			all++
			ids := plan.Served(p)
			c, e := bound.Make(w, ids)
			if e != api.OK || !slices.Equal(c.Ids, ids) || c.Bound > cost || c.Bound < 0 {
				t.Fatalf("%+v: %v costs %d; of that %v, %d", w, p, cost, c, e)
			}
			if len(ids) > 1 {
				served++
				if c.Bound == cost {
					just++
				}
			}
			d := spoilt(r, lowered(r, c))
			if bound.Holds(w, d) && (d.Bound > cost || d.Bound > c.Bound) {
				t.Fatalf("%+v: %v costs %d; %v holds", w, p, cost, d)
			}
		})
	}
	if all < 20000 || served < 10000 || just < 100 {
		t.Errorf("only %d plans, %d of more than one order, %d of just the Bound", all, served, just)
	}
}

// P12.2: in greater worlds it is at most the cost of plans that are built and made better, and of what the least of a kind costs by plan.Less.
func TestGoodPlans(t *testing.T) {
	r := rand.New(rand.NewSource(4))
	many := 0
	for range 60 {
		w := drawnWorld(r, 12, 6)
		p, e := savings.Build(w)
		for range 5 {
			c, f := bound.Make(w, plan.Served(p))
			cost, g := plan.Check(w, p)
			if e != api.OK || f != api.OK || g != api.OK || c.Bound > cost || !bound.Holds(w, c) {
				t.Fatalf("%+v: %v, %d, costs %d, %d; of that %v, %d", w, p, e, cost, g, c, f)
			}
			if len(c.Ids) > 5 {
				many++
			}
			q, _, h := better.Improve(w, p, 60)
			if h != api.OK || plan.Less(w, p, q) {
				t.Fatalf("%+v: %v is made worse: %v, %d", w, p, q, h)
			}
			p = q
		}
	}
	if many < 80 {
		t.Errorf("only %d plans of more than 5 orders", many)
	}
}

// P12.2: a plan whose every way is the least one costs just the Bound.
func TestJust(t *testing.T) {
	w := flat(plain(), 300)
	for node := range 12 {
		*way(w, node, node+1) = 7
	}
	*way(w, 12, 0) = 9
	for at := range w.Trucks {
		w.Trucks[at].Fixed, w.Trucks[at].Rate = 50, 2
	}
	cost, e := plan.Check(w, api.Plan{Routes: []api.Route{{Truck: 2, Stops: all()}}})
	if cost != 236 || e != api.OK { // 50, and 2 times 12 ways of 7 and one of 9
		t.Fatalf("the plan costs %d, %d", cost, e)
	}
	makes(t, "all, one behind the other", w, all(), bound.Cert{Ids: all(), In: slices.Repeat([]int64{7}, 12), Back: 9, Rate: 2, Fixed: 50, Bound: 236})
}

// P12.1: an answer hangs on nothing but what is given: what is changed between two calls counts in the second one.
func TestNothingIsKept(t *testing.T) {
	w := plain()
	ids := []int{102, 101}
	first, _ := bound.Make(w, ids)
	ids[0] = 103
	*way(w, 0, 1), *way(w, 1, 0) = 4, 5
	w.Trucks[0].Rate, w.Trucks[0].Fixed = 1, 30
	makes(t, "what is changed", w, ids, bound.Cert{Ids: []int{101, 103}, In: []int64{4, 1003}, Back: 5, Rate: 1, Fixed: 30, Bound: 1042})
	if !sameCert(first, bound.Cert{Ids: []int{101, 102}, In: []int64{1001, 1002}, Back: 1020, Rate: 2, Fixed: 50, Bound: 6096}) {
		t.Errorf("an answer was changed by what was given: %v", first)
	}
	holds(t, "what was made before", w, first, false)
	holds(t, "what was made before, in its own world", plain(), first, true)
}
