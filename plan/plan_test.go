package plan_test

import (
	"fmt"
	"math"
	"math/rand"
	"reflect"
	"slices"
	"testing"

	"groupage/api"
	"groupage/plan"
	"groupage/route"
)

// unlike is an area in which no two numbers are the same but those from a node to itself.
func unlike(n int) api.Area {
	a := api.Area{N: n, Dist: make([]int64, n*n), Time: make([]int64, n*n)}
	for at := range n * n {
		if at/n != at%n {
			a.Dist[at] = int64(1 + at*37%257)
			a.Time[at] = int64(1000 + at*91%257)
		}
	}
	return a
}

// even is an area in which all nodes are as far from one another.
func even(n int, dist, time int64) api.Area {
	a := unlike(n)
	for at := range n * n {
		if at/n != at%n {
			a.Dist[at], a.Time[at] = dist, time
		}
	}
	return a
}

// plain is a world of 13 nodes, 12 orders, of Ids 101 to 112, which don't rise, each at a node of its own, and 6 trucks, of Ids 1 to 6, that can run to all of them in whichever order.
func plain() api.World {
	w := api.World{Area: unlike(13)}
	for i := range 12 {
		w.Orders = append(w.Orders, api.Order{Id: 101 + i*5%12, Owner: i, Node: 12 - i, Weight: int64(1 + i), Volume: int64(20 + i), From: int64(900 * i), To: 500000, Service: int64(10 * i)})
	}
	for i := range 6 {
		w.Trucks = append(w.Trucks, api.Truck{Id: 1 + i, Weight: 1000, Volume: 1000, Start: int64(7 * i), End: 900000, Fixed: int64(50 * i), Rate: int64(1 + i)})
	}
	return w
}

// level is plain, but all legs are 10 far, and all trucks alike: a route of n stops costs 107 and 10 a stop, by whichever truck.
func level() api.World {
	w := plain()
	w.Area = even(13, 10, 0)
	for at := range w.Trucks {
		w.Trucks[at] = api.Truck{Id: 1 + at, Weight: 1000, Volume: 1000, End: 900000, Fixed: 97, Rate: 1}
	}
	return w
}

// run is a truck's route.
func run(truck int, stops ...int) api.Route { return api.Route{Truck: truck, Stops: stops} }

// of is a plan of routes that leaves all other orders of a world.
func of(w api.World, routes ...api.Route) api.Plan {
	return api.Plan{Routes: routes, Unserved: others(w, routes)}
}

// others looks for the Ids of a world's orders that no route stops at, from the least Id to the greatest that may be of a test's world.
func others(w api.World, routes []api.Route) []int {
	var l []int
	for id := range 200 {
		for _, o := range w.Orders {
			if o.Id == id && !slices.ContainsFunc(routes, func(r api.Route) bool { return slices.Contains(r.Stops, id) }) {
				l = append(l, id)
			}
		}
	}
	return l
}

// dealt is n routes, of trucks 1 to n, to which plain's orders are dealt by turns, but the last few.
func dealt(n, left int) []api.Route {
	routes := make([]api.Route, n)
	for i := range n {
		routes[i].Truck = 1 + i
	}
	for i := range 12 - left {
		routes[i%n].Stops = append(routes[i%n].Stops, 101+i)
	}
	return routes
}

func copiedWorld(w api.World) api.World {
	w.Area.Dist, w.Area.Time = slices.Clone(w.Area.Dist), slices.Clone(w.Area.Time)
	w.Orders, w.Trucks = slices.Clone(w.Orders), slices.Clone(w.Trucks)
	return w
}

func copiedPlan(p api.Plan) api.Plan {
	p.Routes, p.Unserved = slices.Clone(p.Routes), slices.Clone(p.Unserved)
	for at := range p.Routes {
		p.Routes[at].Stops = slices.Clone(p.Routes[at].Stops)
	}
	return p
}

func samePlan(p, q api.Plan) bool {
	return slices.Equal(p.Unserved, q.Unserved) && slices.EqualFunc(p.Routes, q.Routes, func(x, y api.Route) bool {
		return x.Truck == y.Truck && slices.Equal(x.Stops, y.Stops)
	})
}

// same tells that a call left what it was given.
func same(t *testing.T, what string, w, kept api.World, p, q api.Plan) {
	t.Helper()
	if !reflect.DeepEqual(w, kept) || !reflect.DeepEqual(p, q) {
		t.Errorf("%s changed what it was given", what)
	}
}

// wantCheck is P9.1, error by error, in its order.
func wantCheck(w api.World, p api.Plan) (int64, api.Errno) {
	if e := route.World(w); e != api.OK {
		return 0, e
	}
	if len(p.Routes) > 6 {
		return 0, api.ErrFull
	}
	var cost int64
	for _, r := range p.Routes {
		trip, e := route.Run(w, r)
		if e != api.OK {
			return 0, e
		}
		cost += trip.Cost
	}
	trucks, left := map[int]int{}, map[int]int{}
	for _, o := range w.Orders {
		left[o.Id] = 1
	}
	for _, r := range p.Routes {
		trucks[r.Truck]++
		for _, id := range r.Stops {
			left[id]--
		}
		if trucks[r.Truck] > 1 {
			return 0, api.ErrTwice
		}
	}
	before, lacking := 0, 0
	for _, n := range left {
		if n < 0 {
			return 0, api.ErrTwice
		}
		lacking += n
	}
	for _, id := range p.Unserved {
		if left[id] != 1 || id <= before {
			return 0, api.ErrForm
		}
		before = id
		lacking--
	}
	if lacking != 0 {
		return 0, api.ErrForm
	}
	return cost, api.OK
}

// wantLess is P9.2's Less.
func wantLess(w api.World, a, b api.Plan) bool {
	x, e := wantCheck(w, a)
	y, f := wantCheck(w, b)
	n, m := len(a.Unserved), len(b.Unserved)
	return e == api.OK && f == api.OK && (n < m || n == m && x < y)
}

// checks asks a plan's cost twice, and holds it against what is wanted, and what was given against what it was.
func checks(t *testing.T, what string, w api.World, p api.Plan, want int64, e api.Errno) {
	t.Helper()
	kept, q := copiedWorld(w), copiedPlan(p)
	for range 2 {
		if cost, f := plan.Check(w, p); cost != want || f != e {
			t.Errorf("Check of %s: %d, %d; asked %d, %d", what, cost, f, want, e)
		}
	}
	same(t, "Check of "+what, w, kept, p, q)
}

// costs holds the cost of a plan that may be against the model, and tells it.
func costs(t *testing.T, what string, w api.World, p api.Plan) int64 {
	t.Helper()
	want, e := wantCheck(w, p)
	if e != api.OK {
		t.Fatalf("%s may not be: %d", what, e)
	}
	checks(t, what, w, p, want, api.OK)
	return want
}

func fails(t *testing.T, what string, w api.World, p api.Plan, e api.Errno) {
	t.Helper()
	checks(t, what, w, p, 0, e)
}

func served(t *testing.T, what string, p api.Plan, want ...int) {
	t.Helper()
	q := copiedPlan(p)
	if l := plan.Served(p); !slices.Equal(l, want) {
		t.Errorf("Served of %s: %v; asked %v", what, l, want)
	}
	same(t, "Served of "+what, api.World{}, api.World{}, p, q)
}

func rest(t *testing.T, what string, w api.World, p api.Plan, want ...int) {
	t.Helper()
	kept, q := copiedWorld(w), copiedPlan(p)
	if l := plan.Rest(w, p); !slices.Equal(l, want) {
		t.Errorf("Rest of %s: %v; asked %v", what, l, want)
	}
	same(t, "Rest of "+what, w, kept, p, q)
}

func less(t *testing.T, what string, w api.World, a, b api.Plan, want bool) {
	t.Helper()
	kept, p, q := copiedWorld(w), copiedPlan(a), copiedPlan(b)
	if l := plan.Less(w, a, b); l != want {
		t.Errorf("Less of %s: %t; asked %t", what, l, want)
	}
	same(t, "Less of "+what, w, kept, a, p)
	same(t, "Less of "+what, w, kept, b, q)
}

// badWorlds are plain with a fault, and route.World's error.
func badWorlds() map[string]struct {
	w api.World
	e api.Errno
} {
	l := map[string]struct {
		w api.World
		e api.Errno
	}{"nothing": {api.World{}, api.ErrArg}}
	for name, c := range map[string]struct {
		change func(*api.World)
		e      api.Errno
	}{
		"no nodes":              {func(w *api.World) { w.Area = api.Area{} }, api.ErrArg},
		"17 nodes":              {func(w *api.World) { w.Area = unlike(17) }, api.ErrArg},
		"a distance less":       {func(w *api.World) { w.Area.Dist = w.Area.Dist[:168] }, api.ErrArg},
		"a time below 0":        {func(w *api.World) { w.Area.Time[1] = -1 }, api.ErrArg},
		"13 orders":             {func(w *api.World) { w.Orders = append(w.Orders, w.Orders[0]); w.Orders[12].Id = 113 }, api.ErrFull},
		"7 trucks":              {func(w *api.World) { w.Trucks = append(w.Trucks, w.Trucks[0]); w.Trucks[6].Id = 7 }, api.ErrFull},
		"an order at the depot": {func(w *api.World) { w.Orders[11].Node = 0 }, api.ErrArg},
		"a truck of no Id":      {func(w *api.World) { w.Trucks[5].Id = 0 }, api.ErrArg},
		"two orders alike":      {func(w *api.World) { w.Orders[11].Id = 101 }, api.ErrTwice},
		"two trucks alike":      {func(w *api.World) { w.Trucks[5].Id = 1 }, api.ErrTwice},
	} {
		w := plain()
		c.change(&w)
		l[name] = struct {
			w api.World
			e api.Errno
		}{w, c.e}
	}
	return l
}

// badRoute is a route that can't be run, what makes it so of plain, and Run's error.
type badRoute struct {
	r      api.Route
	change func(*api.World)
	e      api.Errno
}

// badRoutes are routes of truck 6 (but one that is of none), of which Run tells each of its errors.
func badRoutes() map[string]badRoute {
	nothing := func(*api.World) {}
	return map[string]badRoute{
		"no stops":           {run(6), nothing, api.ErrForm},
		"13 stops":           {run(6, 101, 102, 103, 104, 105, 106, 107, 108, 109, 110, 111, 112, 101), nothing, api.ErrForm},
		"no such truck":      {run(7, 112), nothing, api.ErrName},
		"no such order":      {run(6, 112, 113), nothing, api.ErrName},
		"an order twice":     {run(6, 112, 112), nothing, api.ErrTwice},
		"an order apart":     {run(6, 112, 111, 112), nothing, api.ErrTwice},
		"too heavy":          {run(6, 112), func(w *api.World) { w.Trucks[5].Weight = 1 }, api.ErrLoad},
		"too large":          {run(6, 112), func(w *api.World) { w.Trucks[5].Volume = 19 }, api.ErrLoad},
		"back too late":      {run(6, 112), func(w *api.World) { w.Trucks[5].End = 1000 }, api.ErrLate},
		"a stop of too late": {run(6, 112), func(w *api.World) { w.Trucks[5].Start = 600000 }, api.ErrLate},
	}
}

// P9.1: a plan of no routes, that leaves all: it costs nothing, also where there is no order, or no truck.
func TestNoRoutes(t *testing.T) {
	w := plain()
	all := []int{101, 102, 103, 104, 105, 106, 107, 108, 109, 110, 111, 112}
	checks(t, "all orders unserved", w, api.Plan{Unserved: all}, 0, api.OK)
	checks(t, "all orders unserved, an empty list of routes", w, api.Plan{Routes: []api.Route{}, Unserved: all}, 0, api.OK)
	w.Trucks = nil
	checks(t, "all orders unserved, no trucks", w, api.Plan{Unserved: all}, 0, api.OK)
	w.Orders = nil
	checks(t, "a depot's world", api.World{Area: unlike(1)}, api.Plan{}, 0, api.OK)
	checks(t, "no orders, no trucks", w, api.Plan{}, 0, api.OK)
	checks(t, "no orders, an empty list of them", w, api.Plan{Routes: []api.Route{}, Unserved: []int{}}, 0, api.OK)
	fails(t, "no orders, one unserved", w, api.Plan{Unserved: []int{101}}, api.ErrForm)
}

// P9.1: plans of 1 to 6 routes, that serve all orders, and that leave some: each costs what its trips do.
func TestCheckCost(t *testing.T) {
	for n := 1; n <= 6; n++ {
		for _, left := range []int{0, 1, 6} {
			w, what := plain(), fmt.Sprint(n, " routes that leave ", left)
			p := of(w, dealt(n, left)...)
			if len(p.Unserved) != left {
				t.Fatalf("%s: %v", what, p)
			}
			costs(t, what, w, p)
			w = level()
			checks(t, "level, "+what, w, p, int64(107*n+10*(12-left)), api.OK)
		}
	}
	w := level()
	checks(t, "one stop", w, of(w, run(3, 107)), 117, api.OK)
	checks(t, "one stop each, trucks that don't rise", w, of(w, run(5, 107), run(2, 101), run(3, 112)), 351, api.OK)
	w.Trucks[4].Fixed, w.Trucks[1].Rate = 1000, 1000
	checks(t, "trucks that cost unlike", w, of(w, run(5, 107), run(2, 101), run(3, 112)), 1020+20097+117, api.OK)
}

// P9.1: the greatest cost there is.
func TestGreatestCost(t *testing.T) {
	w := level()
	w.Area = even(13, 1000000, 0)
	for at := range w.Trucks {
		w.Trucks[at].Fixed, w.Trucks[at].Rate = 1000000, 1000
	}
	checks(t, "6 routes as dear as can be", w, of(w, dealt(6, 0)...), 18006000000, api.OK)
}

// P9.1: Unserved is empty, or none, where all orders are served, and nowhere else.
func TestUnservedEmptyOrNone(t *testing.T) {
	w := level()
	for name, l := range map[string][]int{"empty": {}, "none": nil} {
		checks(t, "all served, Unserved "+name, w, api.Plan{Routes: dealt(4, 0), Unserved: l}, 548, api.OK)
		fails(t, "one left, Unserved "+name, w, api.Plan{Routes: dealt(4, 1), Unserved: l}, api.ErrForm)
		fails(t, "all left, Unserved "+name, w, api.Plan{Unserved: l}, api.ErrForm)
	}
}

// P9.1: an Unserved that isn't what it must be.
func TestUnservedIsOther(t *testing.T) {
	w := plain()
	routes := []api.Route{run(2, 105, 103), run(1, 108, 101, 112, 110)}
	costs(t, "what must be", w, api.Plan{Routes: routes, Unserved: []int{102, 104, 106, 107, 109, 111}})
	for what, l := range map[string][]int{
		"lacks the first":          {104, 106, 107, 109, 111},
		"lacks one":                {102, 104, 107, 109, 111},
		"lacks the last":           {102, 104, 106, 107, 109},
		"has one that is served":   {102, 103, 104, 106, 107, 109, 111},
		"has the last, served":     {102, 104, 106, 107, 109, 111, 112},
		"has a served one instead": {102, 103, 106, 107, 109, 111},
		"has one of no world":      {102, 104, 106, 107, 109, 111, 113},
		"has 0":                    {0, 102, 104, 106, 107, 109, 111},
		"has one below 0":          {-5, 102, 104, 106, 107, 109, 111},
		"has one of none instead":  {102, 104, 106, 107, 109, 113},
		"has the first twice":      {102, 102, 104, 106, 107, 109, 111},
		"has the last twice":       {102, 104, 106, 107, 109, 111, 111},
		"has one twice, lacks one": {102, 104, 104, 107, 109, 111},
		"has two that don't rise":  {102, 106, 104, 107, 109, 111},
		"falls":                    {111, 109, 107, 106, 104, 102},
		"has the last at first":    {111, 102, 104, 106, 107, 109},
		"is all orders":            {101, 102, 103, 104, 105, 106, 107, 108, 109, 110, 111, 112},
		"is those that are served": {101, 103, 105, 108, 110, 112},
		"is by places":             {1, 3, 5, 6, 8, 10},
	} {
		fails(t, "an Unserved that "+what, w, api.Plan{Routes: routes, Unserved: l}, api.ErrForm)
	}
}

// P9.1: route.World's error comes ahead of all others, whatever the plan.
func TestBadWorld(t *testing.T) {
	w := plain()
	plans := map[string]api.Plan{
		"nothing": {}, "all left": of(w), "all served": of(w, dealt(3, 0)...),
		"7 routes": {Routes: make([]api.Route, 7)}, "a bad route": {Routes: []api.Route{run(9, 5, 5)}},
		"a truck twice": {Routes: []api.Route{run(1, 105), run(1, 106)}}, "an order twice": {Routes: []api.Route{run(1, 105), run(2, 105)}},
		"no Unserved": {Routes: []api.Route{run(1, 105)}},
	}
	for name, c := range badWorlds() {
		for what, p := range plans {
			fails(t, what+" in a world of "+name, c.w, p, c.e)
		}
	}
}

// P9.1: more routes than there may be trucks are ErrFull, whatever they are.
func TestTooManyRoutes(t *testing.T) {
	w := plain()
	costs(t, "6 routes", w, of(w, dealt(6, 1)...))
	for what, more := range map[string]api.Route{
		"that can't be run": run(6), "of no truck": run(7, 112), "of a truck that has one": run(3, 112),
		"of one that is served": run(3, 101), "of nothing": {},
	} {
		fails(t, "a seventh route "+what, w, of(w, append(dealt(6, 1), more)...), api.ErrFull)
	}
	fails(t, "7 routes of nothing", w, api.Plan{Routes: make([]api.Route, 7)}, api.ErrFull)
	fails(t, "100000 routes", w, api.Plan{Routes: make([]api.Route, 100000)}, api.ErrFull)
	fails(t, "a seventh route without orders or trucks", api.World{Area: unlike(1)}, api.Plan{Routes: make([]api.Route, 7)}, api.ErrFull)
}

// P9.1: a route that can't be run, as the only one, the first, one in the middle and the last.
func TestRouteThatCantBeRun(t *testing.T) {
	for name, b := range badRoutes() {
		for n := range 6 {
			for at := range n + 1 {
				w, what := plain(), fmt.Sprint(name, ", route ", at, " of ", n+1)
				b.change(&w)
				if _, e := route.Run(w, b.r); e != b.e {
					t.Fatalf("%s: %d; asked %d", name, e, b.e)
				}
				routes := dealt(max(n, 1), 2)[:n]
				p := of(w, routes...)
				costs(t, "without "+what, w, p)
				p = of(w, slices.Insert(routes, at, b.r)...)
				fails(t, what, w, p, b.e)
				p.Unserved = nil
				fails(t, what+", no Unserved", w, p, b.e)
			}
		}
	}
}

// P9.1: of two routes that can't be run the first one's error is told.
func TestFirstRouteThatCantBeRun(t *testing.T) {
	for name, b := range badRoutes() {
		for other, c := range badRoutes() {
			w := plain()
			b.change(&w)
			c.change(&w)
			_, e := route.Run(w, b.r)
			_, f := route.Run(w, c.r)
			good := run(1, 101)
			fails(t, name+", then "+other, w, of(w, b.r, c.r), e)
			fails(t, name+", then, apart, "+other, w, of(w, b.r, good, c.r), e)
			fails(t, other+", behind a route", w, of(w, good, c.r, b.r), f)
		}
	}
}

// P9.1: a truck that has two routes, one behind the other, and apart.
func TestTruckTwice(t *testing.T) {
	w := plain()
	for what, routes := range map[string][]api.Route{
		"one behind the other": {run(2, 101), run(2, 102)},
		"at first":             {run(2, 101), run(2, 102), run(3, 103)},
		"at last":              {run(3, 103), run(2, 101), run(2, 102)},
		"apart":                {run(2, 101), run(3, 103), run(2, 102)},
		"far apart":            {run(2, 101), run(3, 103), run(1, 104), run(6, 105), run(4, 106), run(2, 102)},
		"three times":          {run(2, 101), run(2, 103), run(2, 102)},
		"and its order":        {run(2, 101), run(2, 101)},
	} {
		fails(t, "a truck that has two routes, "+what, w, of(w, routes...), api.ErrTwice)
		fails(t, "a truck that has two routes, no Unserved, "+what, w, api.Plan{Routes: routes}, api.ErrTwice)
	}
}

// P9.1: an order that two routes serve, one behind the other, and apart; one that a route serves twice is Run's error.
func TestOrderTwice(t *testing.T) {
	w := plain()
	for what, routes := range map[string][]api.Route{
		"alone":                 {run(1, 101), run(2, 101)},
		"last, then first":      {run(1, 103, 101), run(2, 101, 102)},
		"first, then last":      {run(1, 101, 103), run(2, 102, 101)},
		"apart":                 {run(1, 101), run(3, 105, 104), run(2, 101)},
		"far apart":             {run(1, 101, 102), run(3, 103), run(2, 104), run(4, 105), run(6, 106), run(5, 107, 101)},
		"three times":           {run(1, 112), run(3, 112), run(2, 112)},
		"in one route":          {run(1, 101, 102), run(2, 103, 103)},
		"in one route, apart":   {run(1, 103, 101, 103), run(2, 102)},
		"two of them":           {run(1, 101, 102), run(2, 102, 101)},
		"one in a truck's next": {run(1, 101, 102), run(1, 102, 103)},
	} {
		fails(t, "an order that is served twice, "+what, w, of(w, routes...), api.ErrTwice)
		fails(t, "an order that is served twice, no Unserved, "+what, w, api.Plan{Routes: routes}, api.ErrTwice)
	}
}

// P9.1: where several errors apply, the one named first.
func TestFirstError(t *testing.T) {
	good, twice := plain(), plain()
	twice.Trucks[5].Id = 1
	late := plain()
	late.Trucks[5].End = 1000
	seven := slices.Repeat([]api.Route{run(6, 101)}, 7)
	for at, c := range []struct {
		w api.World
		p api.Plan
		e api.Errno
	}{
		{twice, api.Plan{Routes: seven}, api.ErrTwice},
		{late, api.Plan{Routes: seven}, api.ErrFull},
		{late, api.Plan{Routes: seven[:6]}, api.ErrLate},
		{good, api.Plan{Routes: seven[:6]}, api.ErrTwice},
		{late, api.Plan{Routes: []api.Route{run(1, 101), run(1, 102), run(6, 103)}}, api.ErrLate},
		{late, api.Plan{Routes: []api.Route{run(1, 101), run(2, 101), run(6, 103)}}, api.ErrLate},
		{late, api.Plan{Routes: []api.Route{run(1, 101), run(2, 101), run(6)}}, api.ErrForm},
		{late, api.Plan{Routes: []api.Route{run(1, 101), run(2, 101), run(7, 101)}}, api.ErrName},
		{late, api.Plan{Routes: []api.Route{run(1, 101), run(2, 101)}}, api.ErrTwice},
		{late, api.Plan{Routes: []api.Route{run(1, 101), run(1, 102)}, Unserved: []int{101, 101}}, api.ErrTwice},
		{late, api.Plan{Routes: []api.Route{run(1, 101), run(2, 102)}, Unserved: []int{101, 101}}, api.ErrForm},
		{late, api.Plan{Routes: []api.Route{run(6, 101)}, Unserved: []int{101, 101}}, api.ErrLate},
	} {
		fails(t, fmt.Sprint("case ", at), c.w, c.p, c.e)
	}
}

// P9.2: the orders that a plan serves, rising, whether it may be or not.
func TestServed(t *testing.T) {
	served(t, "nothing", api.Plan{})
	served(t, "no routes", api.Plan{Routes: []api.Route{}, Unserved: []int{4, 5}})
	served(t, "one stop", api.Plan{Routes: []api.Route{run(1, 7)}, Unserved: []int{4, 5}}, 7)
	served(t, "stops that rise", api.Plan{Routes: []api.Route{run(1, 7, 8), run(2, 9)}}, 7, 8, 9)
	served(t, "stops that don't", api.Plan{Routes: []api.Route{run(1, 9, 2), run(2, 8, 1, 5)}}, 1, 2, 5, 8, 9)
	served(t, "6 routes", api.Plan{Routes: dealt(6, 0)}, 101, 102, 103, 104, 105, 106, 107, 108, 109, 110, 111, 112)
	served(t, "routes of no stops", api.Plan{Routes: []api.Route{run(1), run(2, 4), {Truck: 3, Stops: []int{}}}}, 4)
	served(t, "routes of no truck", api.Plan{Routes: []api.Route{run(0, 3), run(-1, 2)}}, 2, 3)
	served(t, "an order that two routes serve", api.Plan{Routes: []api.Route{run(1, 7, 3), run(2, 3)}}, 3, 3, 7)
	served(t, "an order that a route serves twice", api.Plan{Routes: []api.Route{run(1, 7, 3, 7)}}, 3, 7, 7)
	served(t, "one that is unserved, too", api.Plan{Routes: []api.Route{run(1, 7)}, Unserved: []int{7}}, 7)
	served(t, "the greatest and least", api.Plan{Routes: []api.Route{run(1, math.MaxInt, 0), run(2, math.MinInt)}}, math.MinInt, 0, math.MaxInt)
	many := slices.Repeat([]api.Route{run(1, slices.Repeat([]int{3, 1}, 200)...)}, 200)
	served(t, "80000 stops", api.Plan{Routes: many}, append(slices.Repeat([]int{1}, 40000), slices.Repeat([]int{3}, 40000)...)...)
}

// P9.2: the orders of a world that a plan doesn't serve, rising, whether it and the world may be or not, and whatever it says is unserved.
func TestRest(t *testing.T) {
	w := plain()
	all := upTo(12)
	rest(t, "nothing", w, api.Plan{}, all...)
	rest(t, "a plan that serves none", w, of(w), all...)
	rest(t, "routes of no stops", w, api.Plan{Routes: []api.Route{run(1), run(2)}}, all...)
	rest(t, "a plan that serves all", w, of(w, dealt(5, 0)...))
	rest(t, "a plan that serves all, and has them unserved", w, api.Plan{Routes: dealt(5, 0), Unserved: all})
	rest(t, "a plan that leaves two", w, api.Plan{Routes: dealt(5, 2)}, 111, 112)
	rest(t, "two routes", w, api.Plan{Routes: []api.Route{run(2, 112, 103, 101), run(1, 108, 105)}, Unserved: []int{1, 101}}, 102, 104, 106, 107, 109, 110, 111)
	rest(t, "one order twice", w, api.Plan{Routes: []api.Route{run(2, 112, 103, 112), run(1, 103, 105)}}, 101, 102, 104, 106, 107, 108, 109, 110, 111)
	rest(t, "orders of no world", w, api.Plan{Routes: []api.Route{run(2, 1, 113, 0, -101)}, Unserved: []int{101}}, all...)
	rest(t, "some of them", w, api.Plan{Routes: []api.Route{run(2, 113, 104, 0), run(9, 5, 102)}}, 101, 103, 105, 106, 107, 108, 109, 110, 111, 112)
	rest(t, "nothing of no world", api.World{}, api.Plan{})
	rest(t, "a plan in no world", api.World{}, of(w, dealt(5, 2)...))
	rest(t, "a plan in a world of no orders", api.World{Area: unlike(3)}, of(w, dealt(5, 2)...))
	bad := api.World{Orders: []api.Order{{Id: 5}, {Id: math.MaxInt}, {}, {Id: -3}, {Id: 2}, {Id: math.MinInt}, {Id: 5}}}
	rest(t, "no plan in a world that may not be", bad, api.Plan{}, math.MinInt, -3, 0, 2, 5, 5, math.MaxInt)
	rest(t, "a plan in a world that may not be", bad, api.Plan{Routes: []api.Route{run(1, 2, math.MinInt, 5, 0)}}, -3, math.MaxInt)
	long := api.World{Orders: make([]api.Order, 50000)}
	for at := range long.Orders {
		long.Orders[at].Id = 50000 - at
	}
	rest(t, "50000 orders, all but two of them served", long, api.Plan{Routes: []api.Route{run(1, upFrom(2, 49999)...)}}, 1, 50000)
}

// upTo is the Ids of plain's orders up to the nth one.
func upTo(n int) []int { return upFrom(101, 100+n) }

func upFrom(from, to int) []int {
	var l []int
	for id := from; id <= to; id++ {
		l = append(l, id)
	}
	return l
}

// P9.2: how many are unserved comes first, then the cost.
func TestLess(t *testing.T) {
	w := level()
	w.Trucks[3].Fixed = 96
	w.Trucks[4].Fixed = 98
	w.Trucks[5].Fixed, w.Trucks[5].Rate = 0, 0
	for what, c := range map[string]struct {
		a, b        api.Plan
		ofA, ofB    int64
		first, last bool
	}{
		"the same routes":                        {of(w, run(1, 101)), of(w, run(1, 101)), 117, 117, false, false},
		"both without routes":                    {of(w), api.Plan{Routes: []api.Route{}, Unserved: upTo(12)}, 0, 0, false, false},
		"as many, as dear, another truck":        {of(w, run(1, 101)), of(w, run(2, 101)), 117, 117, false, false},
		"as many, as dear, another order":        {of(w, run(1, 101)), of(w, run(1, 108)), 117, 117, false, false},
		"as many, as dear, the other way round":  {of(w, run(1, 101, 102)), of(w, run(1, 102, 101)), 127, 127, false, false},
		"as many, one dearer":                    {of(w, run(4, 101)), of(w, run(1, 101)), 116, 117, true, false},
		"as many, one dearer, other orders":      {of(w, run(4, 107)), of(w, run(5, 101)), 116, 118, true, false},
		"as many, more routes":                   {of(w, run(1, 101, 102)), of(w, run(1, 101), run(2, 102)), 127, 234, true, false},
		"as many, more routes, but cheaper":      {of(w, run(4, 101), run(6, 102)), of(w, run(1, 101, 102)), 116, 127, true, false},
		"as many, for nothing":                   {of(w, run(6, 101)), of(w, run(1, 101)), 0, 117, true, false},
		"all served, one dearer":                 {of(w, dealt(2, 0)...), of(w, dealt(3, 0)...), 334, 441, true, false},
		"fewer, dearer":                          {of(w, run(1, 101, 102)), of(w, run(4, 101)), 127, 116, true, false},
		"fewer by many, dearer by much":          {of(w, dealt(5, 0)...), of(w, run(6, 101)), 655, 0, true, false},
		"fewer, dearer than none":                {of(w, run(1, 101)), of(w), 117, 0, true, false},
		"fewer, as dear":                         {of(w, run(6, 101)), of(w), 0, 0, true, false},
		"fewer, as dear, of two":                 {of(w, run(1, 101), run(6, 102)), of(w, run(1, 101)), 117, 117, true, false},
		"fewer, cheaper":                         {of(w, run(6, 101, 102)), of(w, run(1, 101)), 0, 117, true, false},
		"fewer, cheaper, fewer routes":           {of(w, run(1, 101, 102, 103)), of(w, run(1, 101), run(2, 102)), 137, 234, true, false},
		"all served, for nothing, and all but 1": {of(w, run(6, upTo(12)...)), of(w, run(6, upTo(11)...)), 0, 0, true, false},
	} {
		checks(t, what+", the one", w, c.a, c.ofA, api.OK)
		checks(t, what+", the other", w, c.b, c.ofB, api.OK)
		less(t, what, w, c.a, c.b, c.first)
		less(t, what+", turned", w, c.b, c.a, c.last)
	}
}

// P9.2: a plan that may not be isn't less than any, and none is less than it.
func TestLessOfPlansThatMayNotBe(t *testing.T) {
	w := level()
	w.Trucks[5].End = 0
	good := map[string]api.Plan{"none": of(w), "some": of(w, run(1, 101, 102)), "all": of(w, dealt(3, 0)...)}
	bad := map[string]api.Plan{
		"nothing":               {},
		"7 routes":              {Routes: make([]api.Route, 7), Unserved: upTo(12)},
		"no stops":              of(w, run(1)),
		"no truck":              of(w, run(7, 101)),
		"no order":              of(w, run(1, 101, 113)),
		"a stop twice":          of(w, run(1, 101, 101)),
		"late":                  of(w, run(6, upTo(12)...)),
		"a truck twice":         of(w, run(1, 101), run(1, 102)),
		"an order twice":        of(w, run(1, 101), run(2, 101)),
		"an order lacks":        {Routes: dealt(3, 1)},
		"an order too many":     {Routes: dealt(3, 0), Unserved: []int{112}},
		"two that don't rise":   {Routes: dealt(3, 2), Unserved: []int{112, 111}},
		"fewest, none unserved": {Unserved: []int{}},
	}
	for name, p := range bad {
		if _, e := wantCheck(w, p); e == api.OK {
			t.Fatalf("%s may be", name)
		}
		for other, q := range good {
			costs(t, other, w, q)
			less(t, name+" than "+other, w, p, q, false)
			less(t, other+" than "+name, w, q, p, false)
		}
		for other, q := range bad {
			less(t, name+" than "+other, w, p, q, false)
		}
	}
	less(t, "both may be", w, good["all"], good["none"], true)
	for name, c := range badWorlds() {
		less(t, "two in a world of "+name, c.w, of(w, run(1, 101, 102)), of(w, run(1, 101)), false)
		less(t, "nothing in a world of "+name, c.w, api.Plan{}, api.Plan{}, false)
	}
}

// somePlans are plans of all kinds, also some that may not be.
func somePlans() map[string]api.Plan {
	w := plain()
	one := []int{7, 8, 9}
	return map[string]api.Plan{
		"nothing":                {},
		"empty lists":            {Routes: []api.Route{}, Unserved: []int{}},
		"all left":               of(w),
		"all served":             of(w, dealt(6, 0)...),
		"some served":            of(w, dealt(4, 5)...),
		"a route of no stops":    {Routes: []api.Route{run(1), {Truck: 2, Stops: []int{}}, run(3, 5)}, Unserved: []int{9}},
		"routes of nothing":      {Routes: make([]api.Route, 9)},
		"two that share stops":   {Routes: []api.Route{run(1, one...), run(2, one...), run(3, one[1:]...)}, Unserved: one},
		"numbers of all kinds":   {Routes: []api.Route{run(math.MinInt, math.MaxInt, 0, -1), run(-1, -1)}, Unserved: []int{5, 5, -3, math.MaxInt}},
		"orders that are served": {Routes: []api.Route{run(1, 3, 3), run(1, 3)}, Unserved: []int{3}},
	}
}

// spoil changes each number of a plan, and puts one more behind each list.
func spoil(p api.Plan) {
	for at := range p.Routes {
		for i := range p.Routes[at].Stops {
			p.Routes[at].Stops[i] = -77
		}
		_ = append(p.Routes[at].Stops, -78)
		p.Routes[at] = api.Route{Truck: -79, Stops: []int{-80}}
	}
	_ = append(p.Routes, api.Route{Truck: -81})
	for at := range p.Unserved {
		p.Unserved[at] = -82
	}
	_ = append(p.Unserved, -83)
}

// P9.2: a copy is the same plan, also of one that may not be, and what is done to the one isn't to be seen in the other.
func TestCopy(t *testing.T) {
	for what, p := range somePlans() {
		kept := copiedPlan(p)
		q := plan.Copy(p)
		if !samePlan(q, kept) || !samePlan(p, kept) {
			t.Errorf("a copy of %s: %v; asked %v", what, q, kept)
		}
		spoil(q)
		if !samePlan(p, kept) {
			t.Errorf("%s was changed by its copy: %v; asked %v", what, p, kept)
		}
		q = plan.Copy(p)
		again := plan.Copy(p)
		spoil(p)
		if !samePlan(q, kept) {
			t.Errorf("a copy of %s was changed by it: %v; asked %v", what, q, kept)
		}
		spoil(q)
		if !samePlan(again, kept) {
			t.Errorf("a copy of %s was changed by another: %v; asked %v", what, again, kept)
		}
	}
}

// P9.2: each list of a copy, changed alone, changes nothing else, of the plan, or of the copy.
func TestCopyListByList(t *testing.T) {
	shared := []int{7, 8, 9}
	make3 := func() api.Plan {
		return api.Plan{Routes: []api.Route{run(1, shared...), run(2, shared...)}, Unserved: shared}
	}
	for what, change := range map[string]func(*api.Plan){
		"a truck":            func(p *api.Plan) { p.Routes[1].Truck = 5 },
		"a route":            func(p *api.Plan) { p.Routes[0] = run(4, 4) },
		"a list of stops":    func(p *api.Plan) { p.Routes[0].Stops = nil },
		"one more route":     func(p *api.Plan) { p.Routes = append(p.Routes, run(3, 1)) },
		"a route less":       func(p *api.Plan) { p.Routes = slices.Delete(p.Routes, 0, 1) },
		"a stop":             func(p *api.Plan) { p.Routes[0].Stops[1] = 4 },
		"the other's stop":   func(p *api.Plan) { p.Routes[1].Stops[2] = 4 },
		"one more stop":      func(p *api.Plan) { p.Routes[0].Stops = append(p.Routes[0].Stops, 1) },
		"a stop less":        func(p *api.Plan) { p.Routes[1].Stops = slices.Delete(p.Routes[1].Stops, 0, 1) },
		"one unserved":       func(p *api.Plan) { p.Unserved[0] = 4 },
		"one more unserved":  func(p *api.Plan) { p.Unserved = append(p.Unserved, 1) },
		"an unserved less":   func(p *api.Plan) { p.Unserved = slices.Delete(p.Unserved, 1, 2) },
		"stops that turn":    func(p *api.Plan) { slices.Reverse(p.Routes[0].Stops) },
		"routes that turn":   func(p *api.Plan) { slices.Reverse(p.Routes) },
		"unserved that turn": func(p *api.Plan) { slices.Reverse(p.Unserved) },
	} {
		p := make3()
		kept := copiedPlan(p)
		q, want := plan.Copy(p), copiedPlan(p)
		change(&q)
		change(&want)
		if !samePlan(p, kept) || !samePlan(q, want) {
			t.Errorf("a copy, %s: %v, %v; asked %v, %v", what, p, q, kept, want)
		}
		p = copiedPlan(make3())
		q = plan.Copy(p)
		change(&p)
		if !samePlan(q, kept) || !samePlan(p, want) {
			t.Errorf("what it was made of, %s: %v, %v; asked %v, %v", what, p, q, want, kept)
		}
	}
}

// P9.1, P9.2: nothing behind the end of what is given is touched, and answers share nothing with it, or with one another.
func TestAnswersAreNew(t *testing.T) {
	w := plain()
	stops, left := []int{105, 103, 101, 999, 998}, []int{102, 104, 106, 107, 108, 109, 110, 111, 112, 997, 996}
	routes := []api.Route{run(2, stops[:3]...), run(995, 994)}
	p := api.Plan{Routes: routes[:1], Unserved: left[:9]}
	want := costs(t, "parts of longer lists", w, p)
	for range 2 {
		l, m, q := plan.Served(p), plan.Rest(w, p), plan.Copy(p)
		if !slices.Equal(l, []int{101, 103, 105}) || !slices.Equal(m, left[:9]) || !samePlan(p, q) {
			t.Errorf("%v, %v, %v", l, m, q)
		}
		l[0], l[1], l[2], m[0], m[8] = 1, 2, 3, 4, 5
		l, m = append(l, 6), append(m, 7)
		spoil(q)
	}
	checks(t, "parts of longer lists, again", w, p, want, api.OK)
	if !slices.Equal(stops, []int{105, 103, 101, 999, 998}) || !slices.Equal(left, []int{102, 104, 106, 107, 108, 109, 110, 111, 112, 997, 996}) {
		t.Errorf("lists were changed: %v, %v", stops, left)
	}
	if !reflect.DeepEqual(routes[1], run(995, 994)) || !samePlan(p, of(w, run(2, 105, 103, 101))) {
		t.Errorf("routes were changed: %v", routes)
	}
	one := api.Plan{Routes: []api.Route{run(1, 101, 102)}}
	l := plan.Served(one)
	one.Routes[0].Stops[0] = 9
	if !slices.Equal(l, []int{101, 102}) {
		t.Errorf("an answer was changed by what was given: %v", l)
	}
}

// drawnWorld is a world that may be, tight enough that routes fail in each way.
func drawnWorld(r *rand.Rand) api.World {
	n := 2 + r.Intn(5)
	a := even(n, 0, 0)
	for at := range n * n {
		if at/n != at%n {
			a.Dist[at], a.Time[at] = r.Int63n(4), r.Int63n(30)
		}
	}
	w := api.World{Area: a}
	for i := range 1 + r.Intn(6) {
		from := r.Int63n(150)
		w.Orders = append(w.Orders, api.Order{Id: 1 + i*3, Owner: r.Intn(32), Node: 1 + r.Intn(n-1), Weight: 1 + r.Int63n(9), Volume: 1 + r.Int63n(9), From: from, To: from + r.Int63n(250), Service: r.Int63n(10)})
	}
	for i := range 1 + r.Intn(4) {
		start := r.Int63n(60)
		w.Trucks = append(w.Trucks, api.Truck{Id: 1 + i, Weight: 8 + r.Int63n(20), Volume: 8 + r.Int63n(20), Start: start, End: start + 100 + r.Int63n(300), Fixed: r.Int63n(4), Rate: r.Int63n(3)})
	}
	r.Shuffle(len(w.Orders), func(i, j int) { w.Orders[i], w.Orders[j] = w.Orders[j], w.Orders[i] })
	r.Shuffle(len(w.Trucks), func(i, j int) { w.Trucks[i], w.Trucks[j] = w.Trucks[j], w.Trucks[i] })
	return w
}

// drawnPlan is a plan that may be in a drawn world: orders are dealt to its trucks, and routes that can't be run are left out.
func drawnPlan(r *rand.Rand, w api.World) api.Plan {
	stops := make([][]int, len(w.Trucks))
	for _, at := range r.Perm(len(w.Orders)) {
		x := r.Intn(len(stops))
		stops[x] = append(stops[x], w.Orders[at].Id)
	}
	var routes []api.Route
	for _, at := range r.Perm(len(stops)) {
		x := run(w.Trucks[at].Id, stops[at]...)
		if _, e := route.Run(w, x); e == api.OK {
			routes = append(routes, x)
		}
	}
	return of(w, routes...)
}

// turned is a drawn plan in which something was changed, at will.
func turned(r *rand.Rand, p api.Plan) api.Plan {
	p = copiedPlan(p)
	switch n := len(p.Routes); {
	case r.Intn(3) == 0 || n == 0:
		if m := len(p.Unserved); m > 0 {
			p.Unserved[r.Intn(m)] = r.Intn(17)
		}
	case r.Intn(3) == 0:
		x := p.Routes[r.Intn(n)]
		x.Stops[r.Intn(len(x.Stops))] = 1 + 3*r.Intn(6)
	case r.Intn(3) == 0:
		p.Routes[r.Intn(n)].Truck = 1 + r.Intn(5)
	case r.Intn(2) == 0:
		x := p.Routes[r.Intn(n)]
		p.Routes = slices.Insert(p.Routes, r.Intn(n+1), run(1+r.Intn(5), x.Stops...))
	default:
		p.Routes = slices.Repeat(p.Routes, 1+r.Intn(7))
	}
	return p
}

// P9.1, P9.2: drawn plans, that may be and that may not, against the document's words.
func TestDrawnPlans(t *testing.T) {
	r := rand.New(rand.NewSource(9))
	seen := map[api.Errno]int{}
	for range 6000 {
		w := drawnWorld(r)
		p := drawnPlan(r, w)
		costs(t, fmt.Sprintf("drawn %+v of %+v", p, w), w, p)
		for range 3 {
			p = turned(r, p)
			want, e := wantCheck(w, p)
			seen[e]++
			checks(t, fmt.Sprintf("drawn %+v of %+v", p, w), w, p, want, e)
			rest(t, fmt.Sprintf("drawn %+v of %+v", p, w), w, p, others(w, p.Routes)...)
		}
	}
	for _, e := range []api.Errno{api.OK, api.ErrFull, api.ErrForm, api.ErrName, api.ErrTwice, api.ErrLoad, api.ErrLate} {
		if seen[e] < 100 {
			t.Errorf("only %d drawn plans answer %d", seen[e], e)
		}
	}
}

// P9.2, P9.3: of drawn plans none is Less than itself; of two that may be just one is Less, if what they cost or leave is unlike, and none, if it isn't.
func TestDrawnLess(t *testing.T) {
	r := rand.New(rand.NewSource(10))
	var seen [4]int
	for range 6000 {
		w := drawnWorld(r)
		a, b := drawnPlan(r, w), drawnPlan(r, w)
		what := fmt.Sprintf("drawn %+v, %+v of %+v", a, b, w)
		less(t, what, w, a, b, wantLess(w, a, b))
		less(t, what, w, b, a, wantLess(w, b, a))
		less(t, what, w, a, a, false)
		less(t, what, w, a, plan.Copy(a), false)
		x, _ := plan.Check(w, a)
		y, _ := plan.Check(w, b)
		both := map[bool]int{}
		both[plan.Less(w, a, b)]++
		both[plan.Less(w, b, a)]++
		alike, kind := x == y && len(a.Unserved) == len(b.Unserved), 0
		if alike != (both[true] == 0) || both[true] > 1 {
			t.Errorf("%s: %d are less", what, both[true])
		}
		switch {
		case alike:
			kind = 0
		case len(a.Unserved) == len(b.Unserved):
			kind = 1
		case (x < y) == (len(a.Unserved) < len(b.Unserved)):
			kind = 2
		default:
			kind = 3
		}
		seen[kind]++
		c := turned(r, b)
		less(t, what+", one turned", w, a, c, wantLess(w, a, c))
		less(t, what+", one turned", w, c, a, wantLess(w, c, a))
		less(t, what+", one turned", w, c, c, false)
	}
	for kind, n := range seen {
		if n < 100 {
			t.Errorf("only %d pairs of kind %d", n, kind)
		}
	}
}

// without is a plan without one of its routes, whose orders are unserved then.
func without(p api.Plan, at int) api.Plan {
	q := copiedPlan(p)
	q.Unserved = append(q.Unserved, q.Routes[at].Stops...)
	slices.Sort(q.Unserved)
	q.Routes = slices.Delete(q.Routes, at, at+1)
	return q
}

// holdsWithout holds P9.3 of each route of a plan that may be.
func holdsWithout(t *testing.T, what string, w api.World, p api.Plan) {
	t.Helper()
	all := costs(t, what, w, p)
	for at, x := range p.Routes {
		trip, e := route.Run(w, x)
		if e != api.OK {
			t.Fatalf("%s: route %d: %d", what, at, e)
		}
		checks(t, fmt.Sprint(what, ", without route ", at), w, without(p, at), all-trip.Cost, api.OK)
		fails(t, fmt.Sprint(what, ", without route ", at, ", its orders nowhere"), w, api.Plan{Routes: without(p, at).Routes, Unserved: p.Unserved}, api.ErrForm)
	}
}

// P9.3: a plan without one of its routes costs as much less as that trip.
func TestWithoutRoute(t *testing.T) {
	for n := 1; n <= 6; n++ {
		w := plain()
		holdsWithout(t, fmt.Sprint(n, " routes"), w, of(w, dealt(n, 3)...))
	}
	r := rand.New(rand.NewSource(11))
	held := 0
	for range 3000 {
		w := drawnWorld(r)
		p := drawnPlan(r, w)
		held += len(p.Routes)
		holdsWithout(t, fmt.Sprintf("drawn %+v of %+v", p, w), w, p)
	}
	if held < 2000 {
		t.Errorf("only %d drawn routes", held)
	}
}

// orderings calls with each order of a list.
func orderings(l []api.Route, call func([]api.Route)) {
	if len(l) == 0 {
		call(nil)
		return
	}
	for at, x := range l {
		orderings(slices.Delete(slices.Clone(l), at, at+1), func(m []api.Route) { call(append(m, x)) })
	}
}

// P9.3: in whichever order routes stand, the cost is the same, and none of two such plans is less.
func TestRoutesInAnotherOrder(t *testing.T) {
	w := plain()
	p := of(w, dealt(6, 2)...)
	want, held := costs(t, "6 routes", w, p), 0
	orderings(p.Routes, func(routes []api.Route) {
		held++
		q := api.Plan{Routes: routes, Unserved: p.Unserved}
		checks(t, fmt.Sprint(routes), w, q, want, api.OK)
		less(t, fmt.Sprint(routes), w, p, q, false)
		less(t, fmt.Sprint(routes), w, q, p, false)
	})
	if held != 720 {
		t.Errorf("%d orders of 6 routes", held)
	}
	r := rand.New(rand.NewSource(12))
	for range 2000 {
		w := drawnWorld(r)
		p := drawnPlan(r, w)
		want, _ := wantCheck(w, p)
		orderings(p.Routes, func(routes []api.Route) {
			checks(t, fmt.Sprintf("drawn %+v of %+v", routes, w), w, api.Plan{Routes: routes, Unserved: p.Unserved}, want, api.OK)
		})
	}
}
