package route_test

import (
	"fmt"
	"math"
	"math/rand"
	"reflect"
	"slices"
	"testing"

	"groupage/api"
	"groupage/area"
	"groupage/load"
	"groupage/route"
)

// unlike is an area in which no two numbers are the same but those from a node to itself: each answer tells which legs were gone.
func unlike(n int) api.Area {
	a := api.Area{N: n, Dist: make([]int64, n*n), Time: make([]int64, n*n)}
	for at := range n * n {
		if at/n != at%n {
			a.Dist[at] = int64(1 + at*37%257)
			a.Time[at] = int64(1000 + at*91%257)
		}
	}
	return a
}

// even is an area in which all nodes are as far from one another.
func even(n int, dist, time int64) api.Area {
	a := unlike(n)
	for at := range n * n {
		if at/n != at%n {
			a.Dist[at], a.Time[at] = dist, time
		}
	}
	return a
}

// plain is a world of 13 nodes, 12 orders, of Ids 101 to 112, each at a node of its own, and 6 trucks, of Ids 1 to 6, that can run to all of them in whichever order.
func plain() api.World {
	w := api.World{Area: unlike(13)}
	for i := range 12 {
		w.Orders = append(w.Orders, api.Order{Id: 101 + i, Owner: i, Node: 12 - i, Weight: int64(1 + i), Volume: int64(20 + i), From: int64(900 * i), To: 500000, Service: int64(10 * i)})
	}
	for i := range 6 {
		w.Trucks = append(w.Trucks, api.Truck{Id: 1 + i, Weight: 1000, Volume: 1000, Start: int64(7 * i), End: 900000, Fixed: int64(50 * i), Rate: int64(1 + i)})
	}
	return w
}

// single is the document's example: one stop, 5 away, its From 9, its Service 2, and a truck of just enough of all that starts at 0.
func single() api.World {
	return api.World{
		Area:   api.Area{N: 2, Dist: []int64{0, 4, 6, 0}, Time: []int64{0, 5, 5, 0}},
		Orders: []api.Order{{Id: 7, Node: 1, Weight: 3, Volume: 4, From: 9, To: 9, Service: 2}},
		Trucks: []api.Truck{{Id: 2, Weight: 3, Volume: 4, End: 16, Fixed: 100, Rate: 3}},
	}
}

// double is two orders at nodes of their own, and a truck of just enough of all.
func double() api.World {
	return api.World{
		Area: api.Area{N: 3, Dist: []int64{0, 1, 2, 3, 0, 4, 5, 6, 0}, Time: []int64{0, 10, 20, 30, 0, 40, 50, 60, 0}},
		Orders: []api.Order{
			{Id: 7, Owner: 3, Node: 1, Weight: 3, Volume: 1, From: 25, To: 25, Service: 5},
			{Id: 8, Owner: 4, Node: 2, Weight: 6, Volume: 2, From: 60, To: 70, Service: 1},
		},
		Trucks: []api.Truck{{Id: 2, Weight: 9, Volume: 3, Start: 4, End: 121, Fixed: 100, Rate: 3}},
	}
}

func copied(w api.World) api.World {
	w.Area.Dist, w.Area.Time = slices.Clone(w.Area.Dist), slices.Clone(w.Area.Time)
	w.Orders, w.Trucks = slices.Clone(w.Orders), slices.Clone(w.Trucks)
	return w
}

// upTo is the Ids of plain's first n orders.
func upTo(n int) []int {
	var l []int
	for i := range n {
		l = append(l, 101+i)
	}
	return l
}

// wantTruck goes through the trucks from the last one.
func wantTruck(w api.World, id int) int {
	found := -1
	for at := len(w.Trucks) - 1; at >= 0; at-- {
		if w.Trucks[at].Id == id {
			found = at
		}
	}
	return found
}

// wantName holds P8.2's errors of names, then that of two stops, and tells what was named.
func wantName(w api.World, r api.Route) (api.Truck, []api.Order, api.Errno) {
	orders := map[int]api.Order{}
	for _, o := range w.Orders {
		orders[o.Id] = o
	}
	var l []api.Order
	stops := map[int]int{}
	for _, id := range r.Stops {
		if orders[id].Id == 0 {
			return api.Truck{}, nil, api.ErrName
		}
		l = append(l, orders[id])
		stops[id]++
	}
	at := wantTruck(w, r.Truck)
	if at < 0 {
		return api.Truck{}, nil, api.ErrName
	}
	if len(stops) < len(l) {
		return api.Truck{}, nil, api.ErrTwice
	}
	return w.Trucks[at], l, api.OK
}

// wantVisits works the visits out from the last one: each begins behind all before it.
func wantVisits(a api.Area, x api.Truck, l []api.Order) ([]route.Visit, int64, int) {
	if len(l) == 0 {
		return nil, x.Start, 0
	}
	o := l[len(l)-1]
	before, left, node := wantVisits(a, x, l[:len(l)-1])
	v := route.Visit{Order: o.Id, Arrive: left + a.Time[a.N*node+o.Node]}
	v.Begin = v.Arrive
	if v.Begin < o.From {
		v.Begin = o.From
	}
	v.Leave = v.Begin + o.Service
	return append(before, v), v.Leave, o.Node
}

// wantRun is P8.2, error by error, in its order.
func wantRun(w api.World, r api.Route) (route.Trip, api.Errno) {
	if e := area.Check(w.Area); e != api.OK {
		return route.Trip{}, e
	}
	if e := load.World(w); e != api.OK {
		return route.Trip{}, e
	}
	if len(r.Stops) == 0 || len(r.Stops) > 12 {
		return route.Trip{}, api.ErrForm
	}
	x, l, e := wantName(w, r)
	if e != api.OK {
		return route.Trip{}, e
	}
	var weight, volume int64
	nodes := []int{0}
	for _, o := range l {
		weight, volume, nodes = weight+o.Weight, volume+o.Volume, append(nodes, o.Node)
	}
	if weight > x.Weight || volume > x.Volume {
		return route.Trip{}, api.ErrLoad
	}
	var trip route.Trip
	var left int64
	trip.Visits, left, _ = wantVisits(w.Area, x, l)
	for at, v := range trip.Visits {
		if v.Begin > l[at].To {
			return route.Trip{}, api.ErrLate
		}
	}
	trip.Back = left + w.Area.Time[w.Area.N*nodes[len(nodes)-1]]
	if trip.Back > x.End {
		return route.Trip{}, api.ErrLate
	}
	for at, node := range nodes {
		trip.Dist += w.Area.Dist[w.Area.N*node+append(nodes, 0)[at+1]]
	}
	trip.Cost = x.Fixed + x.Rate*trip.Dist
	return trip, api.OK
}

func sameTrip(a, b route.Trip) bool {
	return slices.Equal(a.Visits, b.Visits) && a.Back == b.Back && a.Dist == b.Dist && a.Cost == b.Cost
}

func world(t *testing.T, what string, w api.World, want api.Errno) {
	t.Helper()
	kept := copied(w)
	if e := route.World(w); e != want {
		t.Errorf("World of %s: %d; asked %d", what, e, want)
	}
	if !reflect.DeepEqual(w, kept) {
		t.Errorf("World of %s changed it", what)
	}
}

func truck(t *testing.T, w api.World, id, want int) {
	t.Helper()
	kept := copied(w)
	if at := route.Truck(w, id); at != want {
		t.Errorf("Truck(%v, %d): %d; asked %d", w.Trucks, id, at, want)
	}
	if !reflect.DeepEqual(w, kept) {
		t.Errorf("Truck(%v, %d) changed its world", kept.Trucks, id)
	}
}

// runs asks a route's trip and holds it against what is wanted, and what was given against what it was.
func runs(t *testing.T, what string, w api.World, r api.Route, want route.Trip, e api.Errno) {
	t.Helper()
	kept, keptStops := copied(w), slices.Clone(r.Stops)
	trip, f := route.Run(w, r)
	if f != e || !sameTrip(trip, want) {
		t.Errorf("Run of %s: %v, %d; asked %v, %d", what, trip, f, want, e)
	}
	if !reflect.DeepEqual(w, kept) || !slices.Equal(r.Stops, keptStops) {
		t.Errorf("Run of %s changed what it was given", what)
	}
}

// ran is a trip that must be run, as the model has it.
func ran(t *testing.T, what string, w api.World, r api.Route) route.Trip {
	t.Helper()
	want, e := wantRun(w, r)
	if e != api.OK {
		t.Fatalf("%s isn't run: %d", what, e)
	}
	runs(t, what, w, r, want, api.OK)
	return want
}

func fails(t *testing.T, what string, w api.World, r api.Route, e api.Errno) {
	t.Helper()
	runs(t, what, w, r, route.Trip{}, e)
}

// badAreas are areas of each kind that may not be, but with as many nodes as plain has, where that can be.
func badAreas() map[string]api.Area {
	l := map[string]api.Area{"nothing": {}, "17 nodes": unlike(17), "-1 nodes": {N: -1}, "13 nodes without numbers": {N: 13}}
	for name, change := range map[string]func(*api.Area){
		"a distance less":        func(a *api.Area) { a.Dist = a.Dist[:168] },
		"a time less":            func(a *api.Area) { a.Time = a.Time[:168] },
		"a distance more":        func(a *api.Area) { a.Dist = append(a.Dist, 0) },
		"a distance below 0":     func(a *api.Area) { a.Dist[1] = -1 },
		"a time below 0":         func(a *api.Area) { a.Time[1] = -1 },
		"a distance too great":   func(a *api.Area) { a.Dist[167] = 1000001 },
		"a time too great":       func(a *api.Area) { a.Time[167] = 1000001 },
		"a distance to itself":   func(a *api.Area) { a.Dist[14] = 1 },
		"a time to itself":       func(a *api.Area) { a.Time[168] = 1 },
		"a node more than it is": func(a *api.Area) { a.N++ },
	} {
		a := unlike(13)
		change(&a)
		l[name] = a
	}
	return l
}

// badLoads are worlds in which load.World tells an error, and that error.
func badLoads() map[string]struct {
	w api.World
	e api.Errno
} {
	l := map[string]struct {
		w api.World
		e api.Errno
	}{}
	for name, c := range map[string]struct {
		change func(*api.World)
		e      api.Errno
	}{
		"13 orders":         {func(w *api.World) { w.Orders = append(w.Orders, w.Orders[0]); w.Orders[12].Id = 113 }, api.ErrFull},
		"7 trucks":          {func(w *api.World) { w.Trucks = append(w.Trucks, w.Trucks[0]); w.Trucks[6].Id = 7 }, api.ErrFull},
		"an order of no Id": {func(w *api.World) { w.Orders[11].Id = 0 }, api.ErrArg},
		"an order at 0":     {func(w *api.World) { w.Orders[3].Node = 0 }, api.ErrArg},
		"an order at 13":    {func(w *api.World) { w.Orders[3].Node = 13 }, api.ErrArg},
		"a To ahead":        {func(w *api.World) { w.Orders[1].To = w.Orders[1].From - 1 }, api.ErrArg},
		"a long Service":    {func(w *api.World) { w.Orders[0].Service = 10001 }, api.ErrArg},
		"a truck of no Id":  {func(w *api.World) { w.Trucks[5].Id = 0 }, api.ErrArg},
		"an End ahead":      {func(w *api.World) { w.Trucks[1].End = w.Trucks[1].Start - 1 }, api.ErrArg},
		"a Rate too great":  {func(w *api.World) { w.Trucks[0].Rate = 1001 }, api.ErrArg},
		"two orders alike":  {func(w *api.World) { w.Orders[11].Id = 101 }, api.ErrTwice},
		"two trucks alike":  {func(w *api.World) { w.Trucks[5].Id = 1 }, api.ErrTwice},
	} {
		w := plain()
		c.change(&w)
		l[name] = struct {
			w api.World
			e api.Errno
		}{w, c.e}
	}
	return l
}

// P8.1: worlds that may be: of all there may be, of some, and of nothing but an area.
func TestWorld(t *testing.T) {
	world(t, "12 orders and 6 trucks", plain(), api.OK)
	world(t, "one of each", single(), api.OK)
	world(t, "a depot", api.World{Area: unlike(1)}, api.OK)
	world(t, "a depot, and empty lists", api.World{Area: unlike(1), Orders: []api.Order{}, Trucks: []api.Truck{}}, api.OK)
	world(t, "16 nodes", api.World{Area: unlike(16), Trucks: plain().Trucks}, api.OK)
	world(t, "a depot and trucks", api.World{Area: unlike(1), Trucks: plain().Trucks}, api.OK)
	world(t, "a depot and orders", api.World{Area: unlike(1), Orders: plain().Orders}, api.ErrArg)
	world(t, "orders without trucks", api.World{Area: unlike(13), Orders: plain().Orders}, api.OK)
	world(t, "a node too few", api.World{Area: unlike(12), Orders: plain().Orders}, api.ErrArg)
}

// P8.1: area.Check's error comes ahead of load.World's; Run has both, whatever the route.
func TestWorldErrors(t *testing.T) {
	routes := []api.Route{{}, {Truck: 1, Stops: []int{101}}, {Truck: 9, Stops: []int{101, 101, 5}}, {Truck: 1, Stops: make([]int, 13)}}
	for name, a := range badAreas() {
		w := plain()
		w.Area = a
		world(t, name, w, api.ErrArg)
		world(t, name+", and nothing else", api.World{Area: a}, api.ErrArg)
		for at, r := range routes {
			fails(t, fmt.Sprint(name, ", route ", at), w, r, api.ErrArg)
		}
	}
	for name, c := range badLoads() {
		world(t, name, c.w, c.e)
		for at, r := range routes {
			fails(t, fmt.Sprint(name, ", route ", at), c.w, r, c.e)
		}
		c.w.Area.Time[0] = 1
		world(t, name+", and an area that may not be", c.w, api.ErrArg)
		fails(t, name+", and an area that may not be", c.w, routes[1], api.ErrArg)
	}
}

// P8.1: an Id that is there once, twice, and not at all; the world needn't be one that may be.
func TestTruck(t *testing.T) {
	w := plain()
	for at := range w.Trucks {
		truck(t, w, at+1, at)
	}
	for _, id := range []int{0, 7, -1, 101, 1000000, math.MinInt, math.MaxInt} {
		truck(t, w, id, -1)
		truck(t, api.World{}, id, -1)
		truck(t, api.World{Area: unlike(2), Orders: []api.Order{{Id: id}}, Trucks: []api.Truck{}}, id, -1)
	}
	odd := api.World{Trucks: []api.Truck{{Id: 5}, {Id: -3}, {Id: 5, Weight: 1}, {}, {Id: math.MaxInt}, {Id: 8}, {Id: 8}, {Id: 9}}}
	for id, want := range map[int]int{5: 0, -3: 1, 0: 3, math.MaxInt: 4, 8: 5, 9: 7, 1: -1, 3: -1, math.MinInt: -1} {
		truck(t, odd, id, want)
	}
	part := plain()
	part.Trucks = part.Trucks[:3]
	truck(t, part, 3, 2)
	truck(t, part, 4, -1)
	r := rand.New(rand.NewSource(1))
	for range 3000 {
		w := api.World{Trucks: make([]api.Truck, r.Intn(9))}
		for at := range w.Trucks {
			w.Trucks[at].Id = r.Intn(8)
		}
		for id := range 9 {
			truck(t, w, id, wantTruck(w, id))
		}
	}
}

// P8.2: the document's example, and a trip of two stops, worked out by hand.
func TestRunByHand(t *testing.T) {
	runs(t, "the example", single(), api.Route{Truck: 2, Stops: []int{7}},
		route.Trip{Visits: []route.Visit{{Order: 7, Arrive: 5, Begin: 9, Leave: 11}}, Back: 16, Dist: 10, Cost: 130}, api.OK)
	runs(t, "two stops", double(), api.Route{Truck: 2, Stops: []int{7, 8}},
		route.Trip{Visits: []route.Visit{{Order: 7, Arrive: 14, Begin: 25, Leave: 30}, {Order: 8, Arrive: 70, Begin: 70, Leave: 71}}, Back: 121, Dist: 10, Cost: 130}, api.OK)
	runs(t, "the second alone", double(), api.Route{Truck: 2, Stops: []int{8}},
		route.Trip{Visits: []route.Visit{{Order: 8, Arrive: 24, Begin: 60, Leave: 61}}, Back: 111, Dist: 7, Cost: 121}, api.OK)
	fails(t, "the other way round", double(), api.Route{Truck: 2, Stops: []int{8, 7}}, api.ErrLate)
}

// P8.2: routes of no stops, of each number that may be, and of more.
func TestHowManyStops(t *testing.T) {
	w := plain()
	fails(t, "none", w, api.Route{Truck: 1}, api.ErrForm)
	fails(t, "an empty list", w, api.Route{Truck: 1, Stops: []int{}}, api.ErrForm)
	fails(t, "none, of no truck", w, api.Route{}, api.ErrForm)
	for n := 1; n <= 12; n++ {
		for id := 1; id <= 6; id++ {
			trip := ran(t, fmt.Sprint(n, " stops of truck ", id), w, api.Route{Truck: id, Stops: upTo(n)})
			if len(trip.Visits) != n {
				t.Errorf("%d stops: %d visits", n, len(trip.Visits))
			}
			backwards := upTo(n)
			slices.Reverse(backwards)
			ran(t, fmt.Sprint(n, " stops backwards of truck ", id), w, api.Route{Truck: id, Stops: backwards})
		}
	}
	fails(t, "13, the last one none of the world", w, api.Route{Truck: 1, Stops: append(upTo(12), 113)}, api.ErrForm)
	fails(t, "13, the last one again", w, api.Route{Truck: 1, Stops: append(upTo(12), 101)}, api.ErrForm)
	fails(t, "13 of no truck", w, api.Route{Truck: 9, Stops: make([]int, 13)}, api.ErrForm)
	fails(t, "100000", w, api.Route{Truck: 1, Stops: make([]int, 100000)}, api.ErrForm)
}

// P8.2: a truck that isn't there, and an order that isn't, at each place of a route.
func TestNames(t *testing.T) {
	w := plain()
	for _, id := range []int{0, 7, -1, 101, math.MinInt, math.MaxInt} {
		fails(t, fmt.Sprint("truck ", id), w, api.Route{Truck: id, Stops: []int{101}}, api.ErrName)
	}
	for n := 1; n <= 12; n++ {
		for at := range n {
			for _, id := range []int{0, 100, 113, 1, -101, math.MinInt, math.MaxInt} {
				stops := upTo(n)
				stops[at] = id
				fails(t, fmt.Sprint(n, " stops, at ", at, " order ", id), w, api.Route{Truck: 1, Stops: stops}, api.ErrName)
			}
		}
	}
	w.Trucks = nil
	fails(t, "no trucks", w, api.Route{Truck: 1, Stops: []int{101}}, api.ErrName)
	fails(t, "no trucks, and truck 0", w, api.Route{Stops: []int{101}}, api.ErrName)
	w = plain()
	w.Orders = []api.Order{}
	fails(t, "no orders", w, api.Route{Truck: 1, Stops: []int{101}}, api.ErrName)
	part := plain()
	part.Orders, part.Trucks = part.Orders[:4], part.Trucks[:2]
	fails(t, "an order behind the list", part, api.Route{Truck: 1, Stops: []int{105}}, api.ErrName)
	fails(t, "a truck behind the list", part, api.Route{Truck: 3, Stops: []int{101}}, api.ErrName)
	ran(t, "the last ones of the lists", part, api.Route{Truck: 2, Stops: []int{104}})
}

// P8.2: two stops that are the same, at each two places.
func TestTwice(t *testing.T) {
	w := plain()
	for n := 2; n <= 12; n++ {
		for at := range n {
			for other := range at {
				stops := upTo(n)
				stops[at] = stops[other]
				fails(t, fmt.Sprint(n, " stops, the same at ", other, " and ", at), w, api.Route{Truck: 1, Stops: stops}, api.ErrTwice)
			}
		}
	}
	fails(t, "one 12 times", w, api.Route{Truck: 1, Stops: slices.Repeat([]int{105}, 12)}, api.ErrTwice)
}

// P8.2: what a truck just carries, and one unit less of it, by weight and by volume; only the stops' orders count.
func TestCarried(t *testing.T) {
	for n := 1; n <= 12; n++ {
		w := plain()
		var weight, volume int64
		for _, o := range w.Orders[:n] {
			weight, volume = weight+o.Weight, volume+o.Volume
		}
		r := api.Route{Truck: 4, Stops: upTo(n)}
		w.Trucks[3].Weight, w.Trucks[3].Volume = weight, volume
		ran(t, "just enough", w, r)
		w.Trucks[3].Volume = volume - 1
		fails(t, "a volume too small", w, r, api.ErrLoad)
		w.Trucks[3].Volume = 1000000
		ran(t, "a great volume", w, r)
		if weight > 1 {
			w.Trucks[3].Weight = weight - 1
			fails(t, "a weight too small", w, r, api.ErrLoad)
		}
		w.Orders[n-1].Weight += 2
		w.Trucks[3].Weight = weight + 1
		fails(t, "one unit more", w, r, api.ErrLoad)
	}
	w := double()
	w.Orders[0].Weight, w.Orders[1].Weight, w.Trucks[0].Weight = 1000000, 1, 1000000
	fails(t, "one more than any truck has", w, api.Route{Truck: 2, Stops: []int{7, 8}}, api.ErrLoad)
	ran(t, "as much as a truck can have", w, api.Route{Truck: 2, Stops: []int{7}})
}

// P8.2: orders that begin at their To, and one unit behind it, as each stop of a route; the truck that is back at its End, and one unit behind it.
func TestLate(t *testing.T) {
	for n := 1; n <= 12; n++ {
		r := api.Route{Truck: 3, Stops: upTo(n)}
		trip := ran(t, "in time", plain(), r)
		for at, v := range trip.Visits {
			w := plain()
			w.Orders[at].From, w.Orders[at].To = min(w.Orders[at].From, v.Begin), v.Begin
			runs(t, fmt.Sprint(n, " stops, just in time at ", at), w, r, trip, api.OK)
			if v.Arrive == v.Begin {
				w.Orders[at].From, w.Orders[at].To = 0, v.Begin-1
				fails(t, fmt.Sprint(n, " stops, late at ", at), w, r, api.ErrLate)
			}
		}
		w := plain()
		w.Trucks[2].End = trip.Back
		runs(t, fmt.Sprint(n, " stops, back at the End"), w, r, trip, api.OK)
		w.Trucks[2].End = trip.Back - 1
		fails(t, fmt.Sprint(n, " stops, back behind the End"), w, r, api.ErrLate)
	}
	w := double()
	w.Orders[1].To = 69
	fails(t, "a unit late at the last stop", w, api.Route{Truck: 2, Stops: []int{7, 8}}, api.ErrLate)
	w = double()
	w.Trucks[0].Start, w.Orders[0].Service = 15, 0
	ran(t, "there at the To", w, api.Route{Truck: 2, Stops: []int{7, 8}})
	w.Trucks[0].Start = 16
	fails(t, "there a unit late", w, api.Route{Truck: 2, Stops: []int{7, 8}}, api.ErrLate)
	w = single()
	w.Trucks[0].End = 0
	fails(t, "a shift of no time", w, api.Route{Truck: 2, Stops: []int{7}}, api.ErrLate)
	w.Area.Time, w.Orders[0].From, w.Orders[0].Service = make([]int64, 4), 0, 0
	ran(t, "a trip of no time", w, api.Route{Truck: 2, Stops: []int{7}})
}

// P8.2: a Service may be over behind the To.
func TestToIsOfTheBeginAlone(t *testing.T) {
	w := single()
	w.Orders[0].Service, w.Trucks[0].End = 10000, 20000
	runs(t, "a long Service", w, api.Route{Truck: 2, Stops: []int{7}},
		route.Trip{Visits: []route.Visit{{Order: 7, Arrive: 5, Begin: 9, Leave: 10009}}, Back: 10014, Dist: 10, Cost: 130}, api.OK)
}

// P8.2: a truck that arrives ahead of an order's From, at it and behind it, with a Service of 0 and of more.
func TestWaiting(t *testing.T) {
	for from := range int64(11) {
		for _, service := range []int64{0, 1, 2, 10000} {
			w := single()
			w.Orders[0].From, w.Orders[0].To, w.Orders[0].Service, w.Trucks[0].End = from, 10, service, 900000
			begin := max(5, from)
			runs(t, fmt.Sprint("From ", from, ", Service ", service), w, api.Route{Truck: 2, Stops: []int{7}},
				route.Trip{Visits: []route.Visit{{Order: 7, Arrive: 5, Begin: begin, Leave: begin + service}}, Back: begin + service + 5, Dist: 10, Cost: 130}, api.OK)
		}
	}
}

// P8.2: a Start of 0 and greater ones, up to the least that is too late.
func TestStart(t *testing.T) {
	for start := range int64(7) {
		w := single()
		w.Trucks[0].Start = start
		r := api.Route{Truck: 2, Stops: []int{7}}
		if start > 4 {
			fails(t, fmt.Sprint("a Start of ", start), w, r, api.ErrLate)
			continue
		}
		runs(t, fmt.Sprint("a Start of ", start), w, r,
			route.Trip{Visits: []route.Visit{{Order: 7, Arrive: start + 5, Begin: 9, Leave: 11}}, Back: 16, Dist: 10, Cost: 130}, api.OK)
	}
}

// P8.2: two orders at one node, which is no way from itself, but is served twice, one behind the other.
func TestTwoAtOneNode(t *testing.T) {
	w := single()
	w.Orders = append(w.Orders, api.Order{Id: 3, Node: 1, Weight: 1, Volume: 1, From: 2, To: 11, Service: 4})
	w.Trucks[0] = api.Truck{Id: 2, Weight: 4, Volume: 5, End: 20, Fixed: 100, Rate: 3}
	runs(t, "two at one node", w, api.Route{Truck: 2, Stops: []int{7, 3}},
		route.Trip{Visits: []route.Visit{{Order: 7, Arrive: 5, Begin: 9, Leave: 11}, {Order: 3, Arrive: 11, Begin: 11, Leave: 15}}, Back: 20, Dist: 10, Cost: 130}, api.OK)
	runs(t, "the other first", w, api.Route{Truck: 2, Stops: []int{3, 7}},
		route.Trip{Visits: []route.Visit{{Order: 3, Arrive: 5, Begin: 5, Leave: 9}, {Order: 7, Arrive: 9, Begin: 9, Leave: 11}}, Back: 16, Dist: 10, Cost: 130}, api.OK)
	w.Orders[1].To = 10
	fails(t, "the second too late", w, api.Route{Truck: 2, Stops: []int{7, 3}}, api.ErrLate)
	all := plain()
	for at := range all.Orders {
		all.Orders[at].Node = 5
	}
	ran(t, "all at one node", all, api.Route{Truck: 1, Stops: upTo(12)})
}

// P8.2: a Fixed and a Rate of 0, and the greatest of all numbers.
func TestCost(t *testing.T) {
	for _, c := range []struct{ fixed, rate, cost int64 }{
		{0, 0, 0}, {0, 1, 10}, {1, 0, 1}, {7, 3, 37}, {1000000, 0, 1000000}, {0, 1000, 10000}, {1000000, 1000, 1010000},
	} {
		w := single()
		w.Trucks[0].Fixed, w.Trucks[0].Rate = c.fixed, c.rate
		trip := ran(t, fmt.Sprint(c), w, api.Route{Truck: 2, Stops: []int{7}})
		if trip.Cost != c.cost {
			t.Errorf("Fixed %d, Rate %d: %d; asked %d", c.fixed, c.rate, trip.Cost, c.cost)
		}
	}
	far := plain()
	far.Area = even(13, 1000000, 0)
	far.Trucks[0].Fixed, far.Trucks[0].Rate = 1000000, 1000
	if trip := ran(t, "all as far as can be", far, api.Route{Truck: 1, Stops: upTo(12)}); trip.Dist != 13000000 || trip.Cost != 13001000000 {
		t.Errorf("as far as can be: %d, %d", trip.Dist, trip.Cost)
	}
	near := plain()
	near.Area = even(13, 0, 0)
	if trip := ran(t, "no way at all", near, api.Route{Truck: 3, Stops: upTo(12)}); trip.Dist != 0 || trip.Cost != 100 {
		t.Errorf("no way at all: %d, %d", trip.Dist, trip.Cost)
	}
	long := plain()
	long.Area = even(13, 0, 1000000)
	long.Trucks[0].Start, long.Trucks[0].End = 1000000, 1000000
	fails(t, "all as long as can be", long, api.Route{Truck: 1, Stops: upTo(12)}, api.ErrLate)
}

// P8.2: legs that differ there and back: each leg's own distance and time count, once.
func TestEachLeg(t *testing.T) {
	for leg := range 9 {
		w := double()
		w.Area.Dist, w.Area.Time = make([]int64, 9), make([]int64, 9)
		w.Orders[0].From, w.Orders[0].To, w.Orders[1].From, w.Orders[1].To, w.Trucks[0].Start, w.Trucks[0].End = 0, 900000, 0, 900000, 0, 900000
		if leg%4 == 0 {
			continue
		}
		w.Area.Dist[leg], w.Area.Time[leg] = 1000, 77
		trip := ran(t, fmt.Sprint("leg ", leg), w, api.Route{Truck: 2, Stops: []int{7, 8}})
		var dist, time int64
		if leg == 1 || leg == 5 || leg == 6 {
			dist, time = 1000, 77
		}
		if trip.Dist != dist || trip.Back != 6+time {
			t.Errorf("leg %d: %d, %d; asked %d, %d", leg, trip.Dist, trip.Back, dist, 6+time)
		}
	}
}

// P8.2: where several errors apply, the one named first.
func TestFirstError(t *testing.T) {
	for at, c := range []struct {
		truck         int
		stops         []int
		heavy, behind bool
		e             api.Errno
	}{
		{2, []int{7, 8}, false, false, api.OK},
		{2, []int{7, 8}, false, true, api.ErrLate},
		{2, []int{7, 8}, true, false, api.ErrLoad},
		{2, []int{7, 8}, true, true, api.ErrLoad},
		{2, []int{7, 7}, false, false, api.ErrTwice},
		{2, []int{7, 8, 7}, true, true, api.ErrTwice},
		{2, []int{8, 8}, true, true, api.ErrTwice},
		{2, []int{7, 7, 9}, true, true, api.ErrName},
		{2, []int{9, 7, 7}, false, false, api.ErrName},
		{2, []int{9, 9}, false, false, api.ErrName},
		{3, []int{7, 7}, true, true, api.ErrName},
		{3, []int{7, 8}, true, true, api.ErrName},
		{3, []int{9}, false, false, api.ErrName},
		{3, nil, true, true, api.ErrForm},
		{3, slices.Repeat([]int{7}, 13), true, true, api.ErrForm},
		{2, slices.Repeat([]int{9}, 13), false, false, api.ErrForm},
		{2, slices.Repeat([]int{7}, 12), true, true, api.ErrTwice},
	} {
		w := double()
		if c.heavy {
			w.Trucks[0].Weight = 8
		}
		if c.behind {
			w.Trucks[0].End = 50
		}
		r := api.Route{Truck: c.truck, Stops: c.stops}
		if c.e == api.OK {
			ran(t, fmt.Sprint("case ", at), w, r)
			continue
		}
		fails(t, fmt.Sprint("case ", at), w, r, c.e)
	}
}

// drawnWorld is a world that nearly always may be, tight enough that routes fail in each way.
func drawnWorld(r *rand.Rand) api.World {
	n := 2 + r.Intn(5)
	a := even(n, 0, 0)
	for at := range n * n {
		if at/n != at%n {
			a.Dist[at], a.Time[at] = r.Int63n(50), r.Int63n(30)
		}
	}
	w := api.World{Area: a}
	for i := range 1 + r.Intn(5) {
		from := r.Int63n(150)
		w.Orders = append(w.Orders, api.Order{Id: 1 + i*3, Owner: r.Intn(32), Node: 1 + r.Intn(n-1), Weight: 1 + r.Int63n(9), Volume: 1 + r.Int63n(9), From: from, To: from + r.Int63n(150), Service: r.Int63n(10)})
	}
	for i := range r.Intn(4) {
		start := r.Int63n(60)
		w.Trucks = append(w.Trucks, api.Truck{Id: 1 + i, Weight: 8 + r.Int63n(20), Volume: 8 + r.Int63n(20), Start: start, End: start + 50 + r.Int63n(300), Fixed: r.Int63n(100), Rate: r.Int63n(5)})
	}
	r.Shuffle(len(w.Orders), func(i, j int) { w.Orders[i], w.Orders[j] = w.Orders[j], w.Orders[i] })
	r.Shuffle(len(w.Trucks), func(i, j int) { w.Trucks[i], w.Trucks[j] = w.Trucks[j], w.Trucks[i] })
	return w
}

// drawnRoute is a route of a drawn world: most often of its own orders and trucks.
func drawnRoute(r *rand.Rand, w api.World) api.Route {
	x := api.Route{Truck: r.Intn(5)}
	if len(w.Trucks) > 0 && r.Intn(4) > 0 {
		x.Truck = w.Trucks[r.Intn(len(w.Trucks))].Id
	}
	for _, at := range r.Perm(len(w.Orders))[:r.Intn(len(w.Orders)+1)] {
		x.Stops = append(x.Stops, w.Orders[at].Id)
	}
	if r.Intn(5) == 0 {
		x.Stops = append(x.Stops, r.Intn(16))
	}
	return x
}

// P8.2: drawn worlds and routes, asked twice: the same calls answer the same.
func TestDrawnRoutes(t *testing.T) {
	r := rand.New(rand.NewSource(2))
	seen := map[api.Errno]int{}
	for range 60000 {
		w := drawnWorld(r)
		if r.Intn(30) == 0 {
			w.Orders[0].Volume = 0
		}
		x := drawnRoute(r, w)
		want, e := wantRun(w, x)
		seen[e]++
		for range 2 {
			runs(t, fmt.Sprintf("drawn %+v of %+v", x, w), w, x, want, e)
		}
	}
	for _, e := range []api.Errno{api.OK, api.ErrArg, api.ErrForm, api.ErrName, api.ErrTwice, api.ErrLoad, api.ErrLate} {
		if seen[e] < 500 {
			t.Errorf("only %d drawn routes answer %d", seen[e], e)
		}
	}
}

// P8.2: an answer shares nothing with what was given, or with another answer, and nothing is kept.
func TestAnswersAreNew(t *testing.T) {
	w := plain()
	stops := append(upTo(12), 999, 999)
	r := api.Route{Truck: 2, Stops: stops[:3]}
	want := ran(t, "a part of a longer list", w, r)
	first, _ := route.Run(w, r)
	second, _ := route.Run(w, r)
	kept := copied(w)
	for at := range first.Visits {
		first.Visits[at] = route.Visit{Order: -1, Arrive: -1, Begin: -1, Leave: -1}
	}
	_ = append(first.Visits, route.Visit{Order: -2})
	if !sameTrip(second, want) {
		t.Errorf("one answer was changed by another: %v", second)
	}
	if !reflect.DeepEqual(w, kept) || !slices.Equal(stops, append(upTo(12), 999, 999)) {
		t.Errorf("what was given was changed by an answer")
	}
	runs(t, "the same again", w, r, want, api.OK)
	w.Orders[0].Service += 5
	stops[1] = 104
	ran(t, "what was changed", w, r)
	if !sameTrip(second, want) {
		t.Errorf("an answer was changed by what was given: %v", second)
	}
}

// drawnRun is a route that is run, in its world, and where its truck stands there.
type drawnRun struct {
	w    api.World
	x    api.Route
	trip route.Trip
	at   int
}

// drawnRuns are routes that are run, of drawn worlds, no two of which share anything.
func drawnRuns(t *testing.T, r *rand.Rand) []drawnRun {
	var l []drawnRun
	for range 20000 {
		w := drawnWorld(r)
		x := drawnRoute(r, w)
		if trip, e := route.Run(w, x); e == api.OK {
			l = append(l, drawnRun{w, x, trip, route.Truck(w, x.Truck)})
		}
	}
	if len(l) < 2000 {
		t.Fatalf("only %d drawn routes are run", len(l))
	}
	return l
}

// P8.3: a truck that starts earlier still runs what it ran, by the same way, and is nowhere later.
func TestStartsEarlier(t *testing.T) {
	r := rand.New(rand.NewSource(3))
	sooner := 0
	for _, d := range drawnRuns(t, r) {
		start := &d.w.Trucks[d.at].Start
		*start = r.Int63n(*start + 1)
		early, e := route.Run(d.w, d.x)
		if e != api.OK || len(early.Visits) != len(d.trip.Visits) || early.Back > d.trip.Back || early.Dist != d.trip.Dist || early.Cost != d.trip.Cost {
			t.Fatalf("%+v: earlier %v, %d", d, early, e)
		}
		for i, v := range early.Visits {
			late := d.trip.Visits[i]
			if v.Order != late.Order || v.Arrive > late.Arrive || v.Begin > late.Begin || v.Leave > late.Leave {
				t.Errorf("%+v: earlier %v", d, v)
			}
		}
		if early.Back < d.trip.Back {
			sooner++
		}
	}
	if sooner < 300 {
		t.Errorf("only %d drawn routes are back earlier", sooner)
	}
}

// P8.3: a truck that ends later runs what it ran, as it did.
func TestEndsLater(t *testing.T) {
	r := rand.New(rand.NewSource(4))
	for _, d := range drawnRuns(t, r) {
		d.w.Trucks[d.at].End += 1 + r.Int63n(1000)
		runs(t, "a later End", d.w, d.x, d.trip, api.OK)
		d.w.Trucks[d.at].End = 1000000
		runs(t, "the latest End", d.w, d.x, d.trip, api.OK)
	}
}

// P8.3: visits of the first stops are those of a route of them alone; it fails by its way back alone, which may be longer than that by way of the others.
func TestFirstStops(t *testing.T) {
	held := 0
	for _, d := range drawnRuns(t, rand.New(rand.NewSource(5))) {
		for n := 1; n < len(d.x.Stops); n++ {
			part := api.Route{Truck: d.x.Truck, Stops: d.x.Stops[:n]}
			first, e := route.Run(d.w, part)
			if e == api.ErrLate {
				d.w.Trucks[d.at].End = 1000000
				first, e = route.Run(d.w, part)
			}
			if e != api.OK || !slices.Equal(first.Visits, d.trip.Visits[:n]) {
				t.Fatalf("the first %d of %+v: %v, %d", n, d, first, e)
			}
			held++
		}
	}
	if held < 1000 {
		t.Errorf("only %d first stops of drawn routes", held)
	}
	w := double()
	w.Area.Time[3] = 1000
	ran(t, "home by way of the second stop", w, api.Route{Truck: 2, Stops: []int{7, 8}})
	fails(t, "the long way home", w, api.Route{Truck: 2, Stops: []int{7}}, api.ErrLate)
}
