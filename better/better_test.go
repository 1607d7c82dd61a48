package better_test

import (
	"fmt"
	"math"
	"math/rand"
	"reflect"
	"slices"
	"testing"

	"groupage/api"
	"groupage/better"
	"groupage/plan"
	"groupage/savings"
)

// line is an area whose node k stands at k, and where no way takes any time.
func line(n int) api.Area {
	a := api.Area{N: n, Time: make([]int64, n*n)}
	for at := range n * n {
		x, y := at/n, at%n
		a.Dist = append(a.Dist, int64(max(x-y, y-x)))
	}
	return a
}

// few is a world of n orders, of Ids 101 and up, each at the node of its Id less 100 on a line, and of m trucks, of Ids 1 and up, that each can run all of them in whichever order. Neither orders nor trucks stand by their Ids.
func few(n, m int) api.World {
	w := api.World{Area: line(13)}
	for i := range 12 {
		if id := 101 + (i*5+4)%12; id <= 100+n {
			w.Orders = append(w.Orders, api.Order{Id: id, Owner: i, Node: id - 100, Weight: 10, Volume: 10, To: 1000})
		}
	}
	for _, id := range []int{3, 1, 6, 2, 5, 4} {
		if id <= m {
			w.Trucks = append(w.Trucks, api.Truck{Id: id, Weight: 1000, Volume: 1000, End: 1000, Fixed: 50, Rate: 1})
		}
	}
	return w
}

// order is where the order of an Id stands.
func order(w api.World, id int) *api.Order {
	return &w.Orders[slices.IndexFunc(w.Orders, func(o api.Order) bool { return o.Id == id })]
}

// truck is where the truck of an Id stands.
func truck(w api.World, id int) *api.Truck {
	return &w.Trucks[slices.IndexFunc(w.Trucks, func(x api.Truck) bool { return x.Id == id })]
}

// short lets each leg of a way through nodes be of one length.
func short(w api.World, dist int64, nodes ...int) {
	for at := range len(nodes) - 1 {
		w.Area.Dist[nodes[at]*w.Area.N+nodes[at+1]] = dist
	}
}

// far lets all legs be of one length.
func far(w api.World, dist int64) {
	for at := range w.Area.Dist {
		if at/w.Area.N != at%w.Area.N {
			w.Area.Dist[at] = dist
		}
	}
}

// run is a truck's route.
func run(truck int, stops ...int) api.Route { return api.Route{Truck: truck, Stops: stops} }

// of is a plan of those of some routes that have stops, and that leaves all other orders of a world; these are looked for from the least Id to the greatest that may be of a test's world.
func of(w api.World, routes ...api.Route) api.Plan {
	var p api.Plan
	for _, r := range routes {
		if len(r.Stops) > 0 {
			p.Routes = append(p.Routes, r)
		}
	}
	for id := range 200 {
		for _, o := range w.Orders {
			if o.Id == id && !slices.ContainsFunc(routes, func(r api.Route) bool { return slices.Contains(r.Stops, id) }) {
				p.Unserved = append(p.Unserved, id)
			}
		}
	}
	return p
}

// each is a plan of each list of routes.
func each(w api.World, lists ...[]api.Route) []api.Plan {
	var l []api.Plan
	for _, routes := range lists {
		l = append(l, of(w, routes...))
	}
	return l
}

// to is routes: one case of a list of them.
func to(routes ...api.Route) []api.Route { return routes }

func copiedWorld(w api.World) api.World {
	w.Area.Dist, w.Area.Time = slices.Clone(w.Area.Dist), slices.Clone(w.Area.Time)
	w.Orders, w.Trucks = slices.Clone(w.Orders), slices.Clone(w.Trucks)
	return w
}

func copiedRoutes(l []api.Route) []api.Route {
	l = slices.Clone(l)
	for at := range l {
		l[at].Stops = slices.Clone(l[at].Stops)
	}
	return l
}

func copiedPlan(p api.Plan) api.Plan {
	return api.Plan{Routes: copiedRoutes(p.Routes), Unserved: slices.Clone(p.Unserved)}
}

func sameRoute(x, y api.Route) bool { return x.Truck == y.Truck && slices.Equal(x.Stops, y.Stops) }

func samePlan(p, q api.Plan) bool {
	return slices.Equal(p.Unserved, q.Unserved) && slices.EqualFunc(p.Routes, q.Routes, sameRoute)
}

// same tells that a call left what it was given.
func same(t *testing.T, what string, w, kept api.World, p, q api.Plan) {
	t.Helper()
	if !reflect.DeepEqual(w, kept) || !reflect.DeepEqual(p, q) {
		t.Errorf("%s changed what it was given", what)
	}
}

// apart tells that lists share nothing: each is filled, as far as its memory goes, by a number of its own, which must be there when all are. The plan that was given must be what it was.
func apart(t *testing.T, what string, p api.Plan, answers ...api.Plan) {
	t.Helper()
	kept := copiedPlan(p)
	var numbers [][]int
	var routes [][]api.Route
	for _, q := range answers {
		routes = append(routes, q.Routes[:cap(q.Routes)])
		numbers = append(numbers, q.Unserved[:cap(q.Unserved)])
		for _, r := range q.Routes {
			numbers = append(numbers, r.Stops[:cap(r.Stops)])
		}
	}
	for n, l := range numbers {
		for at := range l {
			l[at] = -n
		}
	}
	for n, l := range routes {
		for at := range l {
			l[at].Truck = -n
		}
	}
	for n, l := range numbers {
		if slices.ContainsFunc(l, func(x int) bool { return x != -n }) {
			t.Fatalf("%s: lists of numbers share something", what)
		}
	}
	for n, l := range routes {
		if slices.ContainsFunc(l, func(r api.Route) bool { return r.Truck != -n }) {
			t.Fatalf("%s: lists of routes share something", what)
		}
	}
	if !reflect.DeepEqual(p, kept) {
		t.Fatalf("%s: an answer shares something with what was given", what)
	}
}

// The kinds of moves, in order.
const (
	inserts = iota
	opens
	moves
	turns
	swaps
	kinds
)

// joined is some lists, one behind another.
func joined(lists ...[]int) []int {
	var l []int
	for _, more := range lists {
		l = append(l, more...)
	}
	return l
}

// wantMoves is what P11.1 says of Moves of a plan that may be, kind by kind.
func wantMoves(w api.World, p api.Plan) [kinds][]api.Plan {
	var l [kinds][]api.Plan
	add := func(kind int, change func(routes []api.Route)) {
		routes := copiedRoutes(p.Routes)
		change(routes)
		l[kind] = append(l[kind], of(w, routes...))
	}
	put := func(r *api.Route, at, id int) { r.Stops = joined(r.Stops[:at], []int{id}, r.Stops[at:]) }
	for _, id := range p.Unserved {
		for r := range p.Routes {
			for at := 0; at <= len(p.Routes[r].Stops); at++ {
				add(inserts, func(routes []api.Route) { put(&routes[r], at, id) })
			}
		}
		for _, x := range w.Trucks {
			if !slices.ContainsFunc(p.Routes, func(r api.Route) bool { return r.Truck == x.Id }) {
				l[opens] = append(l[opens], of(w, append(copiedRoutes(p.Routes), run(x.Id, id))...))
			}
		}
	}
	for r, from := range p.Routes {
		for at, id := range from.Stops {
			for s, into := range p.Routes {
				places := len(into.Stops)
				if s != r {
					places++
				}
				for place := range places {
					add(moves, func(routes []api.Route) {
						routes[r].Stops = joined(from.Stops[:at], from.Stops[at+1:])
						put(&routes[s], place, id)
					})
				}
			}
		}
		for i := 0; i < len(from.Stops); i++ {
			for j := i + 1; j < len(from.Stops); j++ {
				add(turns, func(routes []api.Route) {
					for k := i; k <= j; k++ {
						routes[r].Stops[k] = from.Stops[j-(k-i)]
					}
				})
			}
		}
		for s := r + 1; s < len(p.Routes); s++ {
			other := p.Routes[s]
			for i := 0; i <= len(from.Stops); i++ {
				for j := 0; j <= len(other.Stops); j++ {
					add(swaps, func(routes []api.Route) {
						routes[r].Stops = joined(from.Stops[:i], other.Stops[j:])
						routes[s].Stops = joined(other.Stops[:j], from.Stops[i:])
					})
				}
			}
		}
	}
	return l
}

// wantLess is plan.Less, by what is said of it.
func wantLess(w api.World, p, q api.Plan) bool {
	x, e := plan.Check(w, p)
	y, f := plan.Check(w, q)
	n, m := len(p.Unserved), len(q.Unserved)
	return e == api.OK && f == api.OK && (n < m || n == m && x < y)
}

// path is what P11.1 says of Improve, when so many steps were taken, from none on, to as many as there are, and the kinds of the moves that were better, one behind another.
func path(w api.World, p api.Plan) ([]api.Plan, []int) {
	l, taken := []api.Plan{p}, []int(nil)
	for {
		found := false
	trying:
		for kind, some := range wantMoves(w, p) {
			for _, q := range some {
				if found = wantLess(w, q, p); found {
					p, taken = q, append(taken, kind)
				}
				l = append(l, p)
				if found {
					break trying
				}
			}
		}
		if !found {
			return l, taken
		}
	}
}

// comes asks for the moves of a plan, twice, and holds them against what is wanted, kind by kind, and against the model, and what was given against what it was.
func comes(t *testing.T, what string, w api.World, p api.Plan, want [kinds][]api.Plan) {
	t.Helper()
	if _, e := plan.Check(w, p); e != api.OK {
		t.Fatalf("%s: the plan may not be: %d", what, e)
	}
	kept, q := copiedWorld(w), copiedPlan(p)
	model := wantMoves(w, p)
	var all []api.Plan
	for kind, some := range want {
		if !slices.EqualFunc(some, model[kind], samePlan) {
			t.Errorf("%s, kind %d: asked %v, where the model tells %v", what, kind, some, model[kind])
		}
		all = append(all, some...)
	}
	for range 2 {
		l := better.Moves(w, p)
		if len(l) != len(all) {
			t.Errorf("%s: %d moves; asked %d", what, len(l), len(all))
		}
		for at := range min(len(l), len(all)) {
			if !samePlan(l[at], all[at]) {
				t.Errorf("%s: move %d: %v; asked %v", what, at, l[at], all[at])
			}
		}
		same(t, what, w, kept, p, q)
		apart(t, what, p, l...)
	}
}

// improves asks for steps, twice, and holds what comes of them against what is wanted, and what was given against what it was.
func improves(t *testing.T, what string, w api.World, p api.Plan, steps int, want api.Plan, taken int) {
	t.Helper()
	kept, q := copiedWorld(w), copiedPlan(p)
	for range 2 {
		l, n, e := better.Improve(w, p, steps)
		if !samePlan(l, want) || n != taken || e != api.OK {
			t.Errorf("%s, %d steps: %v, %d, %d; asked %v, %d", what, steps, l, n, e, want, taken)
		}
		same(t, what, w, kept, p, q)
		apart(t, what, p, l)
	}
}

// stage is what the plan is from a number of steps on.
type stage struct {
	from int
	p    api.Plan
}

// gets holds what comes of each number of steps against what is wanted: the stages, in order, and how many steps are taken at all.
func gets(t *testing.T, what string, w api.World, most int, stages ...stage) {
	t.Helper()
	model, _ := path(w, stages[0].p)
	if len(model)-1 != most {
		t.Errorf("%s: asked %d steps, where the model tells %d", what, most, len(model)-1)
	}
	at := 0
	for steps := 0; steps <= most+2; steps++ {
		if at+1 < len(stages) && stages[at+1].from == steps {
			at++
		}
		improves(t, what, w, stages[0].p, steps, stages[at].p, min(steps, most))
		if !samePlan(model[min(steps, len(model)-1)], stages[at].p) {
			t.Errorf("%s, %d steps: asked %v, where the model tells %v", what, steps, stages[at].p, model[min(steps, len(model)-1)])
		}
	}
	improves(t, what, w, stages[0].p, 100000, stages[at].p, most)
	if at != len(stages)-1 {
		t.Errorf("%s: only %d stages", what, at+1)
	}
}

// fails holds that a plan has no moves, and that steps of it are refused, how many they may be.
func fails(t *testing.T, what string, w api.World, p api.Plan, e api.Errno) {
	t.Helper()
	kept, q := copiedWorld(w), copiedPlan(p)
	if _, f := plan.Check(w, p); f != e || f == api.OK {
		t.Fatalf("%s: the plan's error is %d; asked %d", what, f, e)
	}
	if l := better.Moves(w, p); len(l) != 0 {
		t.Errorf("Moves of %s: %d", what, len(l))
	}
	for _, steps := range []int{math.MinInt, -1, 0, 1, 7, 100000, 100001, math.MaxInt} {
		refuses(t, what, w, p, steps, e)
	}
	same(t, what, w, kept, p, q)
}

// refuses holds that so many steps are refused, and that there is nothing else then.
func refuses(t *testing.T, what string, w api.World, p api.Plan, steps int, e api.Errno) {
	t.Helper()
	if l, n, f := better.Improve(w, p, steps); len(l.Routes) != 0 || len(l.Unserved) != 0 || n != 0 || f != e {
		t.Errorf("Improve of %s, %d steps: %v, %d, %d; asked %d", what, steps, l, n, f, e)
	}
}

// P11.1: a world that may not be: route.World's error, whatever the plan is.
func TestBadWorld(t *testing.T) {
	for what, c := range map[string]struct {
		change func(*api.World)
		e      api.Errno
	}{
		"nothing":               {func(w *api.World) { *w = api.World{} }, api.ErrArg},
		"no nodes":              {func(w *api.World) { w.Area = api.Area{} }, api.ErrArg},
		"17 nodes":              {func(w *api.World) { w.Area = line(17) }, api.ErrArg},
		"a distance less":       {func(w *api.World) { w.Area.Dist = w.Area.Dist[:168] }, api.ErrArg},
		"a time below 0":        {func(w *api.World) { w.Area.Time[1] = -1 }, api.ErrArg},
		"13 orders":             {func(w *api.World) { w.Orders = append(w.Orders, w.Orders[0]); w.Orders[12].Id = 113 }, api.ErrFull},
		"7 trucks":              {func(w *api.World) { w.Trucks = append(w.Trucks, w.Trucks[0]); w.Trucks[6].Id = 7 }, api.ErrFull},
		"an order at the depot": {func(w *api.World) { w.Orders[11].Node = 0 }, api.ErrArg},
		"a truck of no Id":      {func(w *api.World) { w.Trucks[5].Id = 0 }, api.ErrArg},
		"two orders alike":      {func(w *api.World) { w.Orders[11].Id = w.Orders[0].Id }, api.ErrTwice},
		"two trucks alike":      {func(w *api.World) { w.Trucks[5].Id = w.Trucks[0].Id }, api.ErrTwice},
	} {
		w := few(12, 6)
		good := of(w, run(3, 101, 102), run(1, 105))
		c.change(&w)
		fails(t, "a plan in a world of "+what, w, good, c.e)
		fails(t, "no routes in a world of "+what, w, of(w), c.e)
		fails(t, "nothing in a world of "+what, w, api.Plan{}, c.e)
		fails(t, "a bad plan in a world of "+what, w, api.Plan{Routes: make([]api.Route, 7)}, c.e)
	}
}

// P11.1: a plan that may not be has no moves, and Improve tells plan.Check's error of it, also where the steps may not be.
func TestBadPlan(t *testing.T) {
	for what, c := range map[string]struct {
		change func(api.World)
		routes []api.Route
		e      api.Errno
	}{
		"7 routes":           {nil, to(run(1, 101), run(2, 102), run(3, 103), run(4, 104), run(5, 105), run(6, 106), run(7, 107)), api.ErrFull},
		"13 stops":           {nil, to(run(1, 101, 102, 103, 104, 105, 106, 107, 108, 109, 110, 111, 112, 101)), api.ErrForm},
		"no such truck":      {nil, to(run(1, 101), run(7, 102)), api.ErrName},
		"no such order":      {nil, to(run(1, 101), run(2, 102, 113)), api.ErrName},
		"an order again":     {nil, to(run(1, 101, 102, 101)), api.ErrTwice},
		"too heavy":          {func(w api.World) { truck(w, 2).Weight = 19 }, to(run(1, 101), run(2, 103, 102)), api.ErrLoad},
		"too large":          {func(w api.World) { truck(w, 2).Volume = 19 }, to(run(1, 101), run(2, 103, 102)), api.ErrLoad},
		"too late":           {func(w api.World) { truck(w, 2).Start, truck(w, 2).End = 1001, 2000 }, to(run(1, 101), run(2, 102)), api.ErrLate},
		"back too late":      {func(w api.World) { order(w, 102).Service = 1001 }, to(run(1, 101), run(2, 102)), api.ErrLate},
		"a truck twice":      {nil, to(run(1, 101), run(2, 102), run(1, 103)), api.ErrTwice},
		"an order of two":    {nil, to(run(1, 101, 102), run(2, 103, 101)), api.ErrTwice},
		"late ahead of both": {func(w api.World) { truck(w, 2).End = 0; order(w, 103).Service = 1 }, to(run(1, 101), run(2, 103), run(1, 101)), api.ErrLate},
	} {
		w := few(12, 6)
		if c.change != nil {
			c.change(w)
		}
		fails(t, what, w, of(w, c.routes...), c.e)
		fails(t, what+", Unserved none", w, api.Plan{Routes: c.routes}, c.e)
	}
	w := few(12, 6)
	fails(t, "7 routes of nothing", w, api.Plan{Routes: make([]api.Route, 7)}, api.ErrFull)
	fails(t, "a route of no stops", w, api.Plan{Routes: to(run(1, 101), run(2)), Unserved: of(w, run(1, 101)).Unserved}, api.ErrForm)
}

// P11.1: a plan whose Unserved is other than it must be has no moves, either.
func TestBadUnserved(t *testing.T) {
	w := few(5, 3)
	routes := to(run(2, 104, 101))
	for what, l := range map[string][]int{
		"none":           nil,
		"one less":       {102, 103},
		"one more":       {102, 103, 105, 106},
		"a served one":   {101, 102, 103, 105},
		"falling":        {105, 103, 102},
		"one twice":      {102, 103, 103, 105},
		"one of no kind": {0, 102, 103, 105},
	} {
		fails(t, "Unserved of "+what, w, api.Plan{Routes: routes, Unserved: l}, api.ErrForm)
	}
	fails(t, "all unserved, and none told", w, api.Plan{}, api.ErrForm)
	fails(t, "none there, and one told", few(0, 3), api.Plan{Unserved: []int{101}}, api.ErrForm)
}

// P11.1: steps from 0 to 100000, and no others.
func TestSteps(t *testing.T) {
	w := few(3, 2)
	for _, p := range []api.Plan{of(w), of(w, run(1, 101)), of(w, run(2, 101, 102, 103))} {
		for _, steps := range []int{math.MinInt, -100000, -1, 100001, 200000, 1 << 40, math.MaxInt} {
			refuses(t, "a plan that may be", w, p, steps, api.ErrArg)
		}
		for _, steps := range []int{0, 1, 2, 99999, 100000} {
			if _, n, e := better.Improve(w, p, steps); e != api.OK || n > steps {
				t.Errorf("%d steps: %d, %d", steps, n, e)
			}
		}
		improves(t, "no steps", w, p, 0, p, 0)
	}
	refuses(t, "a depot's world", api.World{Area: line(1)}, api.Plan{}, -1, api.ErrArg)
	refuses(t, "a depot's world", api.World{Area: line(1)}, api.Plan{}, 100001, api.ErrArg)
}

// P11.1: without routes there is nothing but to open: by the orders, rising, and by the trucks as they stand.
func TestMovesOfNoRoutes(t *testing.T) {
	w := few(2, 6)
	comes(t, "2 orders, 6 trucks", w, of(w), [kinds][]api.Plan{opens: {
		of(w, run(3, 101)), of(w, run(1, 101)), of(w, run(6, 101)), of(w, run(2, 101)), of(w, run(5, 101)), of(w, run(4, 101)),
		of(w, run(3, 102)), of(w, run(1, 102)), of(w, run(6, 102)), of(w, run(2, 102)), of(w, run(5, 102)), of(w, run(4, 102)),
	}})
	w = few(3, 3)
	comes(t, "an empty list of routes", w, api.Plan{Routes: []api.Route{}, Unserved: []int{101, 102, 103}}, [kinds][]api.Plan{opens: {
		{Routes: to(run(3, 101)), Unserved: []int{102, 103}}, {Routes: to(run(1, 101)), Unserved: []int{102, 103}}, {Routes: to(run(2, 101)), Unserved: []int{102, 103}},
		{Routes: to(run(3, 102)), Unserved: []int{101, 103}}, {Routes: to(run(1, 102)), Unserved: []int{101, 103}}, {Routes: to(run(2, 102)), Unserved: []int{101, 103}},
		{Routes: to(run(3, 103)), Unserved: []int{101, 102}}, {Routes: to(run(1, 103)), Unserved: []int{101, 102}}, {Routes: to(run(2, 103)), Unserved: []int{101, 102}},
	}})
	for n := range 13 {
		comes(t, fmt.Sprint("no trucks, orders: ", n), few(n, 0), of(few(n, 0)), [kinds][]api.Plan{})
	}
	for m := range 7 {
		comes(t, fmt.Sprint("no orders, trucks: ", m), few(0, m), api.Plan{}, [kinds][]api.Plan{})
	}
	comes(t, "a depot's world", api.World{Area: line(1)}, api.Plan{}, [kinds][]api.Plan{})
}

// P11.1: an order is put at the beginning, in the middle, and at the end, of each route, the orders rising.
func TestInsert(t *testing.T) {
	w := few(4, 1)
	all := wantMoves(w, of(w, run(1, 103, 101)))
	all[inserts] = each(w,
		to(run(1, 102, 103, 101)), to(run(1, 103, 102, 101)), to(run(1, 103, 101, 102)),
		to(run(1, 104, 103, 101)), to(run(1, 103, 104, 101)), to(run(1, 103, 101, 104)))
	comes(t, "two orders into one route", w, of(w, run(1, 103, 101)), all)
	w = few(6, 3)
	p := of(w, run(2, 106), run(3, 101, 105), run(1, 103, 104))
	all = wantMoves(w, p)
	all[inserts] = each(w,
		to(run(2, 102, 106), run(3, 101, 105), run(1, 103, 104)), to(run(2, 106, 102), run(3, 101, 105), run(1, 103, 104)),
		to(run(2, 106), run(3, 102, 101, 105), run(1, 103, 104)), to(run(2, 106), run(3, 101, 102, 105), run(1, 103, 104)), to(run(2, 106), run(3, 101, 105, 102), run(1, 103, 104)),
		to(run(2, 106), run(3, 101, 105), run(1, 102, 103, 104)), to(run(2, 106), run(3, 101, 105), run(1, 103, 102, 104)), to(run(2, 106), run(3, 101, 105), run(1, 103, 104, 102)))
	comes(t, "one order into three routes", w, p, all)
}

// P11.1: a truck that has a route gets no other one; a new route is behind all others.
func TestOpen(t *testing.T) {
	w := few(4, 6)
	p := of(w, run(5, 104), run(1, 102))
	all := wantMoves(w, p)
	all[opens] = each(w,
		to(run(5, 104), run(1, 102), run(3, 101)), to(run(5, 104), run(1, 102), run(6, 101)), to(run(5, 104), run(1, 102), run(2, 101)), to(run(5, 104), run(1, 102), run(4, 101)),
		to(run(5, 104), run(1, 102), run(3, 103)), to(run(5, 104), run(1, 102), run(6, 103)), to(run(5, 104), run(1, 102), run(2, 103)), to(run(5, 104), run(1, 102), run(4, 103)))
	comes(t, "four trucks left", w, p, all)
	p = of(w, run(4, 101), run(6, 104))
	all = wantMoves(w, p)
	all[opens] = each(w,
		to(run(4, 101), run(6, 104), run(3, 102)), to(run(4, 101), run(6, 104), run(1, 102)), to(run(4, 101), run(6, 104), run(2, 102)), to(run(4, 101), run(6, 104), run(5, 102)),
		to(run(4, 101), run(6, 104), run(3, 103)), to(run(4, 101), run(6, 104), run(1, 103)), to(run(4, 101), run(6, 104), run(2, 103)), to(run(4, 101), run(6, 104), run(5, 103)))
	comes(t, "four others left", w, p, all)
	w = few(7, 6)
	p = of(w, run(6, 106), run(5, 105), run(4, 104), run(3, 103), run(2, 102), run(1, 101))
	all = wantMoves(w, p)
	all[opens] = nil
	comes(t, "no truck left", w, p, all)
}

// P11.1: a stop is put at each place of its own route, also where it was, and of each other one; a route whose only stop is elsewhere is gone.
func TestMove(t *testing.T) {
	w := few(1, 1)
	comes(t, "the only stop of all", w, of(w, run(1, 101)), [kinds][]api.Plan{moves: {of(w, run(1, 101))}})
	w = few(3, 1)
	comes(t, "one route of three", w, of(w, run(1, 103, 101, 102)), [kinds][]api.Plan{
		moves: each(w,
			to(run(1, 103, 101, 102)), to(run(1, 101, 103, 102)), to(run(1, 101, 102, 103)),
			to(run(1, 101, 103, 102)), to(run(1, 103, 101, 102)), to(run(1, 103, 102, 101)),
			to(run(1, 102, 103, 101)), to(run(1, 103, 102, 101)), to(run(1, 103, 101, 102))),
		turns: each(w, to(run(1, 101, 103, 102)), to(run(1, 102, 101, 103)), to(run(1, 103, 102, 101))),
	})
	w = few(3, 3)
	p := of(w, run(2, 103), run(3, 101), run(1, 102))
	all := wantMoves(w, p)
	all[moves] = each(w,
		to(run(2, 103), run(3, 101), run(1, 102)),
		to(run(3, 103, 101), run(1, 102)), to(run(3, 101, 103), run(1, 102)),
		to(run(3, 101), run(1, 103, 102)), to(run(3, 101), run(1, 102, 103)),
		to(run(2, 101, 103), run(1, 102)), to(run(2, 103, 101), run(1, 102)),
		to(run(2, 103), run(3, 101), run(1, 102)),
		to(run(2, 103), run(1, 101, 102)), to(run(2, 103), run(1, 102, 101)),
		to(run(2, 102, 103), run(3, 101)), to(run(2, 103, 102), run(3, 101)),
		to(run(2, 103), run(3, 102, 101)), to(run(2, 103), run(3, 101, 102)),
		to(run(2, 103), run(3, 101), run(1, 102)))
	comes(t, "three routes of one each", w, p, all)
}

// P11.1: each two places, next to one another, farther apart, and the first and the last.
func TestTurn(t *testing.T) {
	w := few(2, 1)
	comes(t, "a route of two", w, of(w, run(1, 102, 101)), [kinds][]api.Plan{
		moves: each(w, to(run(1, 102, 101)), to(run(1, 101, 102)), to(run(1, 101, 102)), to(run(1, 102, 101))),
		turns: each(w, to(run(1, 101, 102))),
	})
	w = few(5, 2)
	p := of(w, run(2, 105, 102, 104, 103), run(1, 101))
	all := wantMoves(w, p)
	all[turns] = each(w,
		to(run(2, 102, 105, 104, 103), run(1, 101)), to(run(2, 104, 102, 105, 103), run(1, 101)), to(run(2, 103, 104, 102, 105), run(1, 101)),
		to(run(2, 105, 104, 102, 103), run(1, 101)), to(run(2, 105, 103, 104, 102), run(1, 101)),
		to(run(2, 105, 102, 103, 104), run(1, 101)))
	comes(t, "a route of four", w, p, all)
	p = of(w, run(2, 105, 102), run(1, 101, 104, 103))
	all = wantMoves(w, p)
	all[turns] = each(w,
		to(run(2, 102, 105), run(1, 101, 104, 103)),
		to(run(2, 105, 102), run(1, 104, 101, 103)), to(run(2, 105, 102), run(1, 103, 104, 101)), to(run(2, 105, 102), run(1, 101, 103, 104)))
	comes(t, "two routes", w, p, all)
}

// P11.1: of each two routes, what is from each two places on; a route of no stops any more is gone.
func TestSwap(t *testing.T) {
	w := few(5, 2)
	p := of(w, run(2, 105, 101, 103), run(1, 102, 104))
	all := wantMoves(w, p)
	all[swaps] = each(w,
		to(run(2, 102, 104), run(1, 105, 101, 103)), to(run(2, 104), run(1, 102, 105, 101, 103)), to(run(1, 102, 104, 105, 101, 103)),
		to(run(2, 105, 102, 104), run(1, 101, 103)), to(run(2, 105, 104), run(1, 102, 101, 103)), to(run(2, 105), run(1, 102, 104, 101, 103)),
		to(run(2, 105, 101, 102, 104), run(1, 103)), to(run(2, 105, 101, 104), run(1, 102, 103)), to(run(2, 105, 101), run(1, 102, 104, 103)),
		to(run(2, 105, 101, 103, 102, 104)), to(run(2, 105, 101, 103, 104), run(1, 102)), to(run(2, 105, 101, 103), run(1, 102, 104)))
	comes(t, "three stops and two", w, p, all)
	w = few(4, 3)
	p = of(w, run(1, 104), run(2, 102), run(3, 101))
	all = wantMoves(w, p)
	all[swaps] = each(w,
		to(run(1, 102), run(2, 104), run(3, 101)), to(run(2, 102, 104), run(3, 101)), to(run(1, 104, 102), run(3, 101)), to(run(1, 104), run(2, 102), run(3, 101)),
		to(run(1, 101), run(2, 102), run(3, 104)), to(run(2, 102), run(3, 101, 104)), to(run(1, 104, 101), run(2, 102)), to(run(1, 104), run(2, 102), run(3, 101)),
		to(run(1, 104), run(2, 101), run(3, 102)), to(run(1, 104), run(3, 101, 102)), to(run(1, 104), run(2, 102, 101)), to(run(1, 104), run(2, 102), run(3, 101)))
	comes(t, "three routes, and one left", w, p, all)
}

// P11.1: all five kinds, in their order, of a plan that leaves some orders, and some trucks.
func TestAllKinds(t *testing.T) {
	w := few(5, 4)
	left, none, rest := []int{102}, []int{105}, []int{102, 105}
	two := func(unserved []int, routes ...api.Route) api.Plan {
		return api.Plan{Routes: routes, Unserved: unserved}
	}
	comes(t, "two routes", w, two(rest, run(2, 104, 101), run(1, 103)), [kinds][]api.Plan{
		inserts: {
			two(none, run(2, 102, 104, 101), run(1, 103)), two(none, run(2, 104, 102, 101), run(1, 103)), two(none, run(2, 104, 101, 102), run(1, 103)),
			two(none, run(2, 104, 101), run(1, 102, 103)), two(none, run(2, 104, 101), run(1, 103, 102)),
			two(left, run(2, 105, 104, 101), run(1, 103)), two(left, run(2, 104, 105, 101), run(1, 103)), two(left, run(2, 104, 101, 105), run(1, 103)),
			two(left, run(2, 104, 101), run(1, 105, 103)), two(left, run(2, 104, 101), run(1, 103, 105)),
		},
		opens: {
			two(none, run(2, 104, 101), run(1, 103), run(3, 102)), two(none, run(2, 104, 101), run(1, 103), run(4, 102)),
			two(left, run(2, 104, 101), run(1, 103), run(3, 105)), two(left, run(2, 104, 101), run(1, 103), run(4, 105)),
		},
		moves: {
			two(rest, run(2, 104, 101), run(1, 103)), two(rest, run(2, 101, 104), run(1, 103)), two(rest, run(2, 101), run(1, 104, 103)), two(rest, run(2, 101), run(1, 103, 104)),
			two(rest, run(2, 101, 104), run(1, 103)), two(rest, run(2, 104, 101), run(1, 103)), two(rest, run(2, 104), run(1, 101, 103)), two(rest, run(2, 104), run(1, 103, 101)),
			two(rest, run(2, 103, 104, 101)), two(rest, run(2, 104, 103, 101)), two(rest, run(2, 104, 101, 103)), two(rest, run(2, 104, 101), run(1, 103)),
		},
		turns: {two(rest, run(2, 101, 104), run(1, 103))},
		swaps: {
			two(rest, run(2, 103), run(1, 104, 101)), two(rest, run(1, 103, 104, 101)),
			two(rest, run(2, 104, 103), run(1, 101)), two(rest, run(2, 104), run(1, 103, 101)),
			two(rest, run(2, 104, 101, 103)), two(rest, run(2, 104, 101), run(1, 103)),
		},
	})
}

// P11.1: how many moves there are, of plans of as many routes as there are trucks, that leave all orders, one, or none.
func TestHowMany(t *testing.T) {
	w := few(12, 6)
	full := to(run(4, 101, 102), run(2, 103, 104), run(6, 105, 106), run(1, 107, 108), run(3, 109, 110), run(5, 111, 112))
	one := to(run(4, 101, 102), run(2, 103, 104), run(6, 105, 106), run(1, 107, 108), run(3, 109, 110), run(5, 111))
	long := to(run(4, 101, 102, 103, 104, 105, 106, 107, 108, 109, 110, 111, 112))
	for _, c := range []struct {
		routes []api.Route
		want   [kinds]int
	}{
		{nil, [kinds]int{opens: 72}},
		{full, [kinds]int{moves: 12 * (2 + 5*3), turns: 6, swaps: 15 * 9}},
		{one, [kinds]int{inserts: 17, moves: 10*(2+4*3+2) + 1 + 5*3, turns: 5, swaps: 10*9 + 5*6}},
		{long, [kinds]int{moves: 144, turns: 66}},
	} {
		p := of(w, c.routes...)
		model := wantMoves(w, p)
		for kind, n := range c.want {
			if len(model[kind]) != n {
				t.Errorf("%d routes, kind %d: %d; asked %d", len(c.routes), kind, len(model[kind]), n)
			}
		}
		comes(t, fmt.Sprint(len(c.routes), " routes"), w, p, model)
	}
}

// P11.1: what comes of a move is told also where it may not be.
func TestMovesThatMayNotBe(t *testing.T) {
	w := few(3, 2)
	for at := range w.Trucks {
		w.Trucks[at].Weight = 10
	}
	order(w, 103).Weight = 11
	p := of(w, run(2, 101), run(1, 102))
	want := [kinds][]api.Plan{
		inserts: each(w, to(run(2, 103, 101), run(1, 102)), to(run(2, 101, 103), run(1, 102)), to(run(2, 101), run(1, 103, 102)), to(run(2, 101), run(1, 102, 103))),
		moves: each(w,
			to(run(2, 101), run(1, 102)), to(run(1, 101, 102)), to(run(1, 102, 101)),
			to(run(2, 102, 101)), to(run(2, 101, 102)), to(run(2, 101), run(1, 102))),
		swaps: each(w, to(run(2, 102), run(1, 101)), to(run(1, 102, 101)), to(run(2, 101, 102)), to(run(2, 101), run(1, 102))),
	}
	comes(t, "too heavy", w, p, want)
	gets(t, "too heavy", w, 14, stage{0, p})
	for _, q := range want[inserts] {
		if _, e := plan.Check(w, q); e != api.ErrLoad {
			t.Errorf("%v: %d", q, e)
		}
	}
	w = few(2, 3)
	for at := range w.Trucks {
		w.Trucks[at].Start, w.Trucks[at].End = 1001, 1002
	}
	comes(t, "too late", w, of(w), [kinds][]api.Plan{opens: each(w, to(run(3, 101)), to(run(1, 101)), to(run(2, 101)), to(run(3, 102)), to(run(1, 102)), to(run(2, 102)))})
	gets(t, "too late", w, 6, stage{0, of(w)})
}

// P11.1: the example: the farther one of two first, where that is longer. The second move is better, and of the five then none.
func TestExample(t *testing.T) {
	w := few(2, 1)
	short(w, 5, 2, 1)
	p := of(w, run(1, 102, 101))
	gets(t, "the farther one first", w, 7, stage{0, p}, stage{2, of(w, run(1, 101, 102))})
	improves(t, "the farther one first", w, p, 1000, of(w, run(1, 101, 102)), 7)
}

// P11.1: a plan of which no move is better: all of them are tried once, as far as there are steps; what is as good doesn't count.
func TestNoMoveIsBetter(t *testing.T) {
	w := few(1, 1)
	gets(t, "one stop", w, 1, stage{0, of(w, run(1, 101))})
	w = few(2, 1)
	gets(t, "two stops, there as far as back", w, 5, stage{0, of(w, run(1, 102, 101))})
	gets(t, "no orders", few(0, 6), 0, stage{0, api.Plan{}})
	gets(t, "no trucks", few(12, 0), 0, stage{0, of(few(12, 0))})
	gets(t, "a depot's world", api.World{Area: line(1)}, 0, stage{0, api.Plan{}})
	w = few(1, 3)
	truck(w, 2).Fixed = 1
	gets(t, "a truck that is none of the cheapest, and can't be left", w, 1, stage{0, of(w, run(3, 101))})
}

// P11.1: the first one of the moves that are better is taken, not the best one.
func TestFirstBetter(t *testing.T) {
	w := few(1, 3)
	truck(w, 3).Fixed, truck(w, 1).Fixed, truck(w, 2).Fixed = 1000000, 5, 0
	gets(t, "the dearest truck stands first", w, 2, stage{0, of(w)}, stage{1, of(w, run(3, 101))})
	// Of 103, 102, 101, where each leg but some is 100, the second move is better, and the seventh one, 101 at the beginning, the best.
	w = few(3, 1)
	far(w, 100)
	short(w, 50, 0, 1)
	short(w, 90, 0, 2)
	p := of(w, run(1, 103, 102, 101))
	gets(t, "the best one behind the first", w, 21, stage{0, p}, stage{2, of(w, run(1, 102, 103, 101))}, stage{9, of(w, run(1, 101, 102, 103))})
}

// P11.1: fewer that are unserved are better, whatever that costs.
func TestFewerUnserved(t *testing.T) {
	w := few(2, 2)
	order(w, 102).Weight = 1000
	truck(w, 2).Fixed, truck(w, 2).Rate = 1000000, 1000
	gets(t, "a truck as dear as can be", w, 20, stage{0, of(w, run(1, 101))}, stage{3, of(w, run(1, 101), run(2, 102))}, stage{10, of(w, run(1, 102), run(2, 101))})
}

// P11.1: each of the kinds that leave Unserved as it is, alone, makes a plan better.
func TestOneKind(t *testing.T) {
	w := few(3, 2)
	gets(t, "stops to another route, till one is gone", w, 21, stage{0, of(w, run(1, 101, 103), run(2, 102))}, stage{7, of(w, run(1, 101), run(2, 103, 102))}, stage{9, of(w, run(2, 101, 103, 102))})
	w = few(3, 1)
	far(w, 1000)
	short(w, 1, 0, 1, 2, 3, 0)
	short(w, 10, 0, 3, 2, 1, 0)
	gets(t, "a ring, the other way round", w, 23, stage{0, of(w, run(1, 103, 102, 101))}, stage{11, of(w, run(1, 101, 102, 103))})
	w = few(4, 2)
	far(w, 1000)
	short(w, 1, 0, 1, 2, 0)
	short(w, 1, 0, 3, 4, 0)
	gets(t, "ends that change routes", w, 58, stage{0, of(w, run(1, 101, 104), run(2, 103, 102))}, stage{27, of(w, run(1, 101, 102), run(2, 103, 104))})
}

// P11.1: a plan that gets better several times: behind each move that is better the moves are tried anew, from the first one on.
func TestSeveralTimes(t *testing.T) {
	w := few(2, 1)
	short(w, 5, 2, 1)
	gets(t, "opened, filled and turned", w, 9, stage{0, of(w)}, stage{1, of(w, run(1, 101))}, stage{2, of(w, run(1, 102, 101))}, stage{4, of(w, run(1, 101, 102))})
	// Till the trucks' stops are swapped there is no room for 103.
	w = few(3, 2)
	order(w, 101).Weight, order(w, 102).Weight, order(w, 103).Weight = 1, 2, 2
	truck(w, 1).Weight, truck(w, 1).Fixed, truck(w, 1).Rate = 3, 0, 10
	truck(w, 2).Weight, truck(w, 2).Fixed = 2, 0
	short(w, 1000, 1, 2, 1)
	gets(t, "swapped, and filled", w, 31, stage{0, of(w, run(1, 102), run(2, 101))}, stage{11, of(w, run(1, 101), run(2, 102))}, stage{12, of(w, run(1, 103, 101), run(2, 102))})
}

// drawn is a world of up to 7 orders and 5 trucks, in half of which each truck can run all orders, and a plan that may be in it.
func drawn(r *rand.Rand) (api.World, api.Plan) {
	n := 1 + r.Intn(7)
	w := api.World{Area: api.Area{N: n}}
	most, wide := []int{2, 5, 1000}[r.Intn(3)], int64(r.Intn(2)*1000)
	for at := range n * n {
		var dist, time int64
		if at/n != at%n {
			dist, time = int64(r.Intn(most)), int64(r.Intn(20))
		}
		w.Area.Dist, w.Area.Time = append(w.Area.Dist, dist), append(w.Area.Time, time)
	}
	for _, at := range r.Perm(9)[:r.Intn(8)] {
		if n > 1 {
			from := int64(r.Intn(40))
			w.Orders = append(w.Orders, api.Order{Id: 10 + 7*at, Owner: r.Intn(4), Node: 1 + r.Intn(n-1), Weight: 1 + int64(r.Intn(5)), Volume: 1 + int64(r.Intn(5)), From: from, To: from + int64(r.Intn(90)) + wide, Service: int64(r.Intn(5))})
		}
	}
	for _, at := range r.Perm(9)[:r.Intn(6)] {
		start := int64(r.Intn(20))
		w.Trucks = append(w.Trucks, api.Truck{Id: 1 + at, Weight: 4 + int64(r.Intn(12)) + wide, Volume: 4 + int64(r.Intn(12)) + wide, Start: start, End: start + 50 + int64(r.Intn(150)) + wide, Fixed: int64(r.Intn(2 * most)), Rate: int64(r.Intn(4))})
	}
	return w, dealt(r, w)
}

// dealt is a plan that may be: some orders are tried at a place of a route, or on a truck, till they may be there.
func dealt(r *rand.Rand, w api.World) api.Plan {
	p := of(w)
	for _, o := range r.Perm(len(w.Orders)) {
		id := w.Orders[o].Id
		for range r.Intn(6) {
			routes := copiedRoutes(p.Routes)
			if at := r.Intn(len(routes) + 1); at < len(routes) {
				place := r.Intn(len(routes[at].Stops) + 1)
				routes[at].Stops = slices.Insert(routes[at].Stops, place, id)
			} else if len(w.Trucks) > 0 {
				routes = append(routes, run(w.Trucks[r.Intn(len(w.Trucks))].Id, id))
			}
			if q := of(w, routes...); checked(w, q) {
				p = q
				break
			}
		}
	}
	return p
}

// checked tells whether a plan may be.
func checked(w api.World, p api.Plan) bool {
	_, e := plan.Check(w, p)
	return e == api.OK
}

// P11.1: moves of drawn plans, against the model.
func TestDrawnMoves(t *testing.T) {
	r := rand.New(rand.NewSource(111))
	var seen [kinds]int
	good, bad, many := 0, 0, 0
	for n := range 300 {
		w, p := drawn(r)
		model := wantMoves(w, p)
		comes(t, fmt.Sprint("drawn ", n), w, p, model)
		for kind, l := range model {
			seen[kind] += len(l)
			for _, q := range l {
				if checked(w, q) {
					good++
				} else {
					bad++
				}
			}
		}
		if len(p.Routes) > 2 {
			many++
		}
	}
	if slices.Min(seen[:]) < 150 || good < 500 || bad < 500 || many < 10 {
		t.Errorf("too few of a kind: %v, %d, %d, %d", seen, good, bad, many)
	}
}

// P11.1: numbers of steps of drawn plans, all of them where they are few, against the model.
func TestDrawnImprove(t *testing.T) {
	r := rand.New(rand.NewSource(112))
	var seen [kinds]int
	none, several, anew := 0, 0, 0
	for n := range 300 {
		w, p := drawn(r)
		l, taken := path(w, p)
		every := 1 + len(l)/40
		for steps := r.Intn(every); steps < len(l)+2; steps += every {
			at := min(steps, len(l)-1)
			improves(t, fmt.Sprint("drawn ", n), w, p, steps, l[at], at)
		}
		improves(t, fmt.Sprint("drawn ", n), w, p, 100000, l[len(l)-1], len(l)-1)
		for at, kind := range taken {
			seen[kind]++
			if at > 0 && kind < taken[at-1] {
				anew++
			}
		}
		if len(taken) == 0 {
			none++
		}
		if len(taken) > 2 {
			several++
		}
	}
	if slices.Min(seen[:]) < 2 || none < 10 || several < 10 || anew < 5 {
		t.Errorf("too few of a kind: %v, %d, %d, %d", seen, none, several, anew)
	}
}

// full is a world of as many nodes, orders and trucks as may be.
func full(r *rand.Rand) api.World {
	w := api.World{Area: api.Area{N: 16}}
	for at := range 256 {
		var dist, time int64
		if at/16 != at%16 {
			dist, time = int64(r.Intn(1000)), int64(r.Intn(100))
		}
		w.Area.Dist, w.Area.Time = append(w.Area.Dist, dist), append(w.Area.Time, time)
	}
	for i := range 12 {
		w.Orders = append(w.Orders, api.Order{Id: 12 - i, Node: 1 + r.Intn(15), Weight: 1 + int64(r.Intn(5)), Volume: 1 + int64(r.Intn(5)), To: 900})
	}
	for i := range 6 {
		w.Trucks = append(w.Trucks, api.Truck{Id: 1 + i*5%6, Weight: 14, Volume: 14, End: 1200, Fixed: int64(r.Intn(100)), Rate: 1 + int64(r.Intn(4))})
	}
	return w
}

// P11.1: some hundreds of steps, in worlds as great as may be, from no routes on, and from those that are a first plan.
func TestFullWorlds(t *testing.T) {
	r := rand.New(rand.NewSource(113))
	for n := range 2 {
		w := full(r)
		first, e := savings.Build(w)
		if e != api.OK {
			t.Fatal(e)
		}
		for _, p := range []api.Plan{of(w), first} {
			l, _ := path(w, p)
			last := len(l) - 1
			for _, steps := range []int{0, 1, last / 3, last - 1, last, last + 1, 100000} {
				at := min(steps, last)
				improves(t, fmt.Sprint("full ", n), w, p, steps, l[at], at)
			}
		}
	}
}

// P11.2: what comes of steps may be, and is as good, or better, the more so the more they are; if some are left, no move is better; without steps it is what it was.
func TestWhatFollows(t *testing.T) {
	r := rand.New(rand.NewSource(114))
	left := 0
	for range 150 {
		w, p := drawn(r)
		before := p
		for _, steps := range []int{0, 1, 2, 3, 5, 8, 13, 21, 34, 55, 89, 1000, 100000} {
			q, taken, e := better.Improve(w, p, steps)
			if e != api.OK || taken > steps || taken < 0 || !checked(w, q) {
				t.Fatalf("%v, %v, %d steps: %v, %d, %d", w, p, steps, q, taken, e)
			}
			if steps == 0 && !samePlan(p, q) {
				t.Errorf("%v, %v: no steps changed it", w, p)
			}
			if plan.Less(w, before, q) || !samePlan(before, q) && !plan.Less(w, q, before) {
				t.Errorf("%v, %v, %d steps: %v; fewer: %v", w, p, steps, q, before)
			}
			if taken < steps {
				left++
				for _, x := range better.Moves(w, q) {
					if plan.Less(w, x, q) {
						t.Errorf("%v, %v, %d steps of %d: %v is better than %v", w, p, taken, steps, x, q)
					}
				}
			}
			before = q
		}
		again, _, _ := better.Improve(w, before, 100000)
		if !samePlan(again, before) {
			t.Errorf("%v, %v: steps were left", w, p)
		}
	}
	if left < 500 {
		t.Errorf("only %d had steps left", left)
	}
}

// P11.2: steps in two parts, where the first one ends behind a move that was better, are as many as they are in one.
func TestInTwoParts(t *testing.T) {
	w := few(5, 3)
	p := of(w)
	l, _ := path(w, p)
	parts := 0
	for at := 1; at < len(l); at++ {
		if samePlan(l[at], l[at-1]) {
			continue
		}
		parts++
		q, n, _ := better.Improve(w, p, at)
		_, m, e := better.Improve(w, q, 100000)
		if n != at || n+m != len(l)-1 || e != api.OK {
			t.Errorf("%d and %d steps, %d; asked %d", n, m, e, len(l)-1)
		}
	}
	if parts < 5 {
		t.Errorf("only %d parts", parts)
	}
}

// P11.1: the memory behind the end of lists that were given stays as it was, too.
func TestRoom(t *testing.T) {
	w := few(5, 3)
	stops := []int{104, 101, -1, -1, -1}
	routes := []api.Route{run(2, 103), run(3), run(-1), run(-1), run(-1)}
	routes[1].Stops = stops[:2]
	unserved := []int{102, 105, -1, -1}
	p := api.Plan{Routes: routes[:2], Unserved: unserved[:2]}
	want := wantMoves(w, p)
	comes(t, "lists with room behind them", w, p, want)
	l, _ := path(w, p)
	for steps := range l {
		improves(t, "lists with room behind them", w, p, steps, l[steps], steps)
	}
	if !slices.Equal(stops, []int{104, 101, -1, -1, -1}) || !slices.Equal(unserved, []int{102, 105, -1, -1}) || !slices.EqualFunc(routes, to(run(2, 103), run(3, 104, 101), run(-1), run(-1), run(-1)), sameRoute) {
		t.Errorf("%v, %v, %v", stops, unserved, routes)
	}
}
