package savings_test

import (
	"fmt"
	"math"
	"math/rand"
	"reflect"
	"slices"
	"testing"

	"groupage/api"
	"groupage/plan"
	"groupage/route"
	"groupage/savings"
)

// even is an area in which each node is as far from the depot as another, both ways, and as far from each other node.
func even(n int, out, across int64) api.Area {
	a := api.Area{N: n, Dist: make([]int64, n*n), Time: make([]int64, n*n)}
	for at := range n * n {
		switch {
		case at/n == at%n:
		case at/n == 0 || at%n == 0:
			a.Dist[at] = out
		default:
			a.Dist[at] = across
		}
	}
	return a
}

// plain is a world of 13 nodes, 12 orders, of Ids 101 to 112, each at the node of its Id less 100, which stand from the greatest to the least, and 6 trucks, of Ids 6 to 1, that each can run all of them in whichever order. Each node is 100 from the depot, and 200 from each other one: nothing is saved.
func plain() api.World {
	w := api.World{Area: even(13, 100, 200)}
	for i := range 12 {
		w.Orders = append(w.Orders, api.Order{Id: 112 - i, Owner: i, Node: 12 - i, Weight: 10, Volume: 10, To: 1000000})
	}
	for i := range 6 {
		w.Trucks = append(w.Trucks, api.Truck{Id: 6 - i, Weight: 1000, Volume: 1000, End: 1000000, Fixed: 50, Rate: 1})
	}
	return w
}

// few is plain of its first n orders, and of its first m trucks, by Ids.
func few(n, m int) api.World {
	w := plain()
	w.Orders, w.Trucks = w.Orders[12-n:], w.Trucks[6-m:]
	return w
}

// order is where the order of an Id stands.
func order(w api.World, id int) *api.Order {
	return &w.Orders[slices.IndexFunc(w.Orders, func(o api.Order) bool { return o.Id == id })]
}

// truck is where the truck of an Id stands.
func truck(w api.World, id int) *api.Truck {
	return &w.Trucks[slices.IndexFunc(w.Trucks, func(x api.Truck) bool { return x.Id == id })]
}

// save lets that be saved of plain where an order of an Id is behind another one.
func save(w api.World, from, to int, saved int64) {
	w.Area.Dist[(from-100)*w.Area.N+to-100] = 200 - saved
}

// run is a truck's route.
func run(id int, stops ...int) api.Route { return api.Route{Truck: id, Stops: stops} }

func copied(w api.World) api.World {
	w.Area.Dist, w.Area.Time = slices.Clone(w.Area.Dist), slices.Clone(w.Area.Time)
	w.Orders, w.Trucks = slices.Clone(w.Orders), slices.Clone(w.Trucks)
	return w
}

func sameRoute(x, y api.Route) bool { return x.Truck == y.Truck && slices.Equal(x.Stops, y.Stops) }

func samePlan(p, q api.Plan) bool {
	return slices.Equal(p.Unserved, q.Unserved) && slices.EqualFunc(p.Routes, q.Routes, sameRoute)
}

func sameRows(l, m [][]int) bool { return slices.EqualFunc(l, m, slices.Equal) }

// saves asks what is saved twice, and holds it against what is wanted, and what was given against what it was.
func saves(t *testing.T, what string, w api.World, a, b []int, want int64, e api.Errno) {
	t.Helper()
	kept, x, y := copied(w), slices.Clone(a), slices.Clone(b)
	for range 2 {
		if n, f := savings.Saved(w, a, b); n != want || f != e {
			t.Errorf("Saved of %s: %d, %d; asked %d, %d", what, n, f, want, e)
		}
	}
	if !reflect.DeepEqual(w, kept) || !reflect.DeepEqual(a, x) || !reflect.DeepEqual(b, y) {
		t.Errorf("Saved of %s changed what it was given", what)
	}
}

// joins asks for the rows twice, holds them against what is wanted and against the model, and what was given against what it was.
func joins(t *testing.T, what string, w api.World, want ...[]int) {
	t.Helper()
	kept := copied(w)
	for range 2 {
		if l, e := savings.Rows(w); e != api.OK || !sameRows(l, want) {
			t.Errorf("Rows of %s: %v, %d; asked %v", what, l, e, want)
		}
	}
	if l := wantRows(w); !sameRows(l, want) {
		t.Errorf("%s: asked %v, where the model tells %v", what, want, l)
	}
	if !reflect.DeepEqual(w, kept) {
		t.Errorf("Rows of %s changed what it was given", what)
	}
}

// builds asks for the plan twice, as joins does for the rows, and holds it to be one that may be.
func builds(t *testing.T, what string, w api.World, unserved []int, want ...api.Route) {
	t.Helper()
	kept, p := copied(w), api.Plan{Routes: want, Unserved: unserved}
	for range 2 {
		if q, e := savings.Build(w); e != api.OK || !samePlan(p, q) {
			t.Errorf("Build of %s: %v, %d; asked %v", what, q, e, p)
		}
	}
	if q := wantBuild(w); !samePlan(p, q) {
		t.Errorf("%s: asked %v, where the model tells %v", what, p, q)
	}
	if _, e := plan.Check(w, p); e != api.OK {
		t.Errorf("Build of %s: %v may not be: %d", what, p, e)
	}
	if !reflect.DeepEqual(w, kept) {
		t.Errorf("Build of %s changed what it was given", what)
	}
}

// fails holds that rows and a plan are refused, and that there is none of them then.
func fails(t *testing.T, what string, w api.World, e api.Errno) {
	t.Helper()
	kept := copied(w)
	if l, f := savings.Rows(w); len(l) != 0 || f != e {
		t.Errorf("Rows of %s: %v, %d; asked %d", what, l, f, e)
	}
	if p, f := savings.Build(w); len(p.Routes) != 0 || len(p.Unserved) != 0 || f != e {
		t.Errorf("Build of %s: %v, %d; asked %d", what, p, f, e)
	}
	if !reflect.DeepEqual(w, kept) {
		t.Errorf("Rows or Build of %s changed what it was given", what)
	}
}

// runners are the trucks that can run a row, and what it costs by each, the cheapest one first, of those the one of the least Id.
func runners(w api.World, row []int) [][2]int64 {
	var l [][2]int64
	for _, x := range w.Trucks {
		if trip, e := route.Run(w, run(x.Id, row...)); e == api.OK {
			l = append(l, [2]int64{trip.Cost, int64(x.Id)})
		}
	}
	slices.SortFunc(l, func(x, y [2]int64) int { return slices.Compare(x[:], y[:]) })
	return l
}

// wantSaved is what is saved by joining, as it is said.
func wantSaved(w api.World, a, b []int) int64 {
	from, to := order(w, a[len(a)-1]).Node, order(w, b[0]).Node
	return w.Area.Dist[from*w.Area.N] + w.Area.Dist[to] - w.Area.Dist[from*w.Area.N+to]
}

// wantRows is P10.1's Rows: all pairs that may be joined are written down, and the first of them, as they are sorted, is.
func wantRows(w api.World) [][]int {
	var rows [][]int
	for _, o := range w.Orders {
		if len(runners(w, []int{o.Id})) > 0 {
			rows = append(rows, []int{o.Id})
		}
	}
	for {
		var pairs [][5]int
		for i, a := range rows {
			for j, b := range rows {
				if saved := wantSaved(w, a, b); i != j && saved > 0 && len(runners(w, slices.Concat(a, b))) > 0 {
					pairs = append(pairs, [5]int{-int(saved), a[0], b[0], i, j})
				}
			}
		}
		if len(pairs) == 0 {
			break
		}
		first := slices.MinFunc(pairs, func(x, y [5]int) int { return slices.Compare(x[:], y[:]) })
		i, j := first[3], first[4]
		row := slices.Concat(rows[i], rows[j])
		rows = slices.Delete(rows, max(i, j), max(i, j)+1)
		rows = slices.Delete(rows, min(i, j), min(i, j)+1)
		rows = append(rows, row)
	}
	slices.SortFunc(rows, func(a, b []int) int { return slices.Compare([]int{-len(a), a[0]}, []int{-len(b), b[0]}) })
	return rows
}

// wantBuild is P10.2.
func wantBuild(w api.World) api.Plan {
	var p api.Plan
	left := copied(w)
	for _, row := range wantRows(w) {
		l := runners(left, row)
		if len(l) == 0 {
			continue
		}
		p.Routes = append(p.Routes, run(int(l[0][1]), row...))
		left.Trucks = slices.DeleteFunc(left.Trucks, func(x api.Truck) bool { return int64(x.Id) == l[0][1] })
	}
	for _, o := range w.Orders {
		if !slices.ContainsFunc(p.Routes, func(r api.Route) bool { return slices.Contains(r.Stops, o.Id) }) {
			p.Unserved = append(p.Unserved, o.Id)
		}
	}
	slices.Sort(p.Unserved)
	return p
}

// all are the Ids of plain.
func all() []int { return []int{101, 102, 103, 104, 105, 106, 107, 108, 109, 110, 111, 112} }

// each is a row of each Id.
func each(ids ...int) [][]int {
	var l [][]int
	for _, id := range ids {
		l = append(l, []int{id})
	}
	return l
}

// P10.1, P10.2: in all three route.World's error comes first, whatever the rows are.
func TestBadWorld(t *testing.T) {
	for what, c := range map[string]struct {
		change func(*api.World)
		e      api.Errno
	}{
		"nothing":               {func(w *api.World) { *w = api.World{} }, api.ErrArg},
		"no nodes":              {func(w *api.World) { w.Area = api.Area{} }, api.ErrArg},
		"17 nodes":              {func(w *api.World) { w.Area = even(17, 1, 1) }, api.ErrArg},
		"a node below 0":        {func(w *api.World) { w.Area.N = -13 }, api.ErrArg},
		"a distance less":       {func(w *api.World) { w.Area.Dist = w.Area.Dist[:168] }, api.ErrArg},
		"a distance too great":  {func(w *api.World) { w.Area.Dist[5] = 1000001 }, api.ErrArg},
		"a time below 0":        {func(w *api.World) { w.Area.Time[1] = -1 }, api.ErrArg},
		"a way to itself":       {func(w *api.World) { w.Area.Dist[14] = 1 }, api.ErrArg},
		"13 orders":             {func(w *api.World) { w.Orders = append(w.Orders, w.Orders[0]); w.Orders[12].Id = 113 }, api.ErrFull},
		"7 trucks":              {func(w *api.World) { w.Trucks = append(w.Trucks, w.Trucks[0]); w.Trucks[6].Id = 7 }, api.ErrFull},
		"an order at the depot": {func(w *api.World) { w.Orders[11].Node = 0 }, api.ErrArg},
		"an order of no node":   {func(w *api.World) { w.Orders[11].Node = 13 }, api.ErrArg},
		"a truck of no Id":      {func(w *api.World) { w.Trucks[5].Id = 0 }, api.ErrArg},
		"two orders alike":      {func(w *api.World) { w.Orders[11].Id = 112 }, api.ErrTwice},
		"two trucks alike":      {func(w *api.World) { w.Trucks[5].Id = 6 }, api.ErrTwice},
	} {
		w := plain()
		c.change(&w)
		if e := route.World(w); e != c.e {
			t.Fatalf("%s: the world's error is %d", what, e)
		}
		fails(t, "a world of "+what, w, c.e)
		for _, a := range [][]int{nil, {}, {101}, {9}, {101, 102}, {102, 9}} {
			for _, b := range [][]int{nil, {}, {102}, {9}, {102, 101}, {9, 102}} {
				saves(t, fmt.Sprint(a, b, " in a world of ", what), w, a, b, 0, c.e)
			}
		}
	}
}

// P10.1: what is saved is above 0, 0, or below 0, up to as much as may be.
func TestSaved(t *testing.T) {
	w := plain()
	w.Area.Dist[12*13], w.Area.Dist[0*13+2] = 70, 30 // from 112 to the depot, and from there to 102
	for across, want := range map[int64]int64{0: 100, 1: 99, 99: 1, 100: 0, 101: -1, 1000000: -999900} {
		w.Area.Dist[12*13+2] = across
		saves(t, fmt.Sprint("across ", across), w, []int{112}, []int{102}, want, api.OK)
	}
	w.Area = even(13, 1000000, 0)
	saves(t, "as much as may be", w, []int{101}, []int{112}, 2000000, api.OK)
	w.Area = even(13, 0, 1000000)
	saves(t, "as little as may be", w, []int{101}, []int{112}, -1000000, api.OK)
	w.Area = even(13, 0, 0)
	saves(t, "no distances", w, []int{101}, []int{112}, 0, api.OK)
}

// P10.1: distances, and not times, count, each in its direction.
func TestSavedDirections(t *testing.T) {
	w := few(2, 0)
	w.Area = api.Area{N: 3, Dist: []int64{0, 1, 20, 300, 0, 4000, 50000, 600000, 0}, Time: []int64{0, 7, 7, 7, 0, 7, 7, 7, 0}}
	saves(t, "there", w, []int{101}, []int{102}, 300+20-4000, api.OK)
	saves(t, "back", w, []int{102}, []int{101}, 50000+1-600000, api.OK)
	saves(t, "one behind itself", w, []int{101}, []int{101}, 300+1, api.OK)
	saves(t, "another one behind itself", w, []int{102}, []int{102}, 50000+20, api.OK)
	order(w, 102).Node = 1
	saves(t, "at the same node", w, []int{101}, []int{102}, 300+1, api.OK)
}

// P10.1: the last one of a and the first one of b count; what else is in them may be what it will.
func TestSavedOfLongerRows(t *testing.T) {
	w := plain()
	save(w, 105, 107, 31)
	saves(t, "two of the world's each", w, []int{101, 105}, []int{107, 102}, 31, api.OK)
	saves(t, "the contrary", w, []int{107, 102}, []int{101, 105}, 0, api.OK)
	saves(t, "ones that are twice there", w, []int{105, 105}, []int{107, 105}, 31, api.OK)
	saves(t, "others of none of the world's", w, []int{9, -1, 0, 105}, []int{107, 0, 113, math.MinInt}, 31, api.OK)
	saves(t, "more than there are orders", w, append(make([]int, 1000), 105), append([]int{107}, make([]int, 1000)...), 31, api.OK)
	saves(t, "an a of all", w, []int{101, 102, 103, 104, 106, 107, 108, 109, 110, 111, 112, 105}, []int{107}, 31, api.OK)
	saves(t, "a b of all", w, []int{105}, []int{107, 101, 102, 103, 104, 105, 106, 108, 109, 110, 111, 112}, 31, api.OK)
	saves(t, "a row behind itself", w, []int{105, 107, 105}, []int{105, 107, 105}, 200, api.OK)
}

// P10.1: no truck need be able to run what is joined, or to be there.
func TestSavedWithoutTrucks(t *testing.T) {
	w := few(2, 0)
	save(w, 101, 102, 5)
	saves(t, "no trucks", w, []int{101}, []int{102}, 5, api.OK)
	w = few(2, 1)
	save(w, 101, 102, 5)
	truck(w, 1).Weight = 1
	saves(t, "a truck that carries neither", w, []int{101}, []int{102}, 5, api.OK)
}

// P10.1: ErrForm where a, b, or both have no orders, ahead of ErrName, which is told of the last one of a, and of the first one of b.
func TestSavedErrors(t *testing.T) {
	w := plain()
	for _, none := range [][]int{nil, {}} {
		for _, some := range [][]int{{101}, {101, 102}, {9}, {9, 9}, {0}} {
			saves(t, fmt.Sprint("an a of none, and ", some), w, none, some, 0, api.ErrForm)
			saves(t, fmt.Sprint(some, " and a b of none"), w, some, none, 0, api.ErrForm)
		}
		saves(t, "both of none", w, none, none, 0, api.ErrForm)
		saves(t, "both of none, of one kind each", w, none, nil, 0, api.ErrForm)
	}
	for _, id := range []int{100, 113, 9, 1, 0, -1, -101, 1000001, math.MaxInt, math.MinInt} {
		saves(t, fmt.Sprint("an a of ", id), w, []int{id}, []int{101}, 0, api.ErrName)
		saves(t, fmt.Sprint("an a that ends by ", id), w, []int{102, id}, []int{101}, 0, api.ErrName)
		saves(t, fmt.Sprint("a b of ", id), w, []int{101}, []int{id}, 0, api.ErrName)
		saves(t, fmt.Sprint("a b that begins by ", id), w, []int{101}, []int{id, 102}, 0, api.ErrName)
		saves(t, fmt.Sprint("both of ", id), w, []int{id}, []int{id}, 0, api.ErrName)
	}
	w.Orders = nil
	saves(t, "no orders there", w, []int{101}, []int{102}, 0, api.ErrName)
	saves(t, "no orders there, nor in a", w, nil, []int{102}, 0, api.ErrForm)
}

// P10.1, P10.2: worlds of no orders, and of no trucks.
func TestNothingThere(t *testing.T) {
	joins(t, "a depot's world", api.World{Area: even(1, 0, 0)})
	builds(t, "a depot's world", api.World{Area: even(1, 0, 0)}, nil)
	for m := range 7 {
		what := fmt.Sprint("no orders, trucks: ", m)
		joins(t, what, few(0, m))
		builds(t, what, few(0, m), nil)
	}
	for n := range 13 {
		what := fmt.Sprint("no trucks, orders: ", n)
		w := few(n, 0)
		w.Area = even(13, 100, 0)
		joins(t, what, w)
		builds(t, what, w, all()[:n])
	}
}

// P10.1, P10.2: worlds of one order, of some, and of as many as may be, of one truck, and of as many as may be, where nothing is saved, and where something is.
func TestHowMany(t *testing.T) {
	for n := 1; n <= 12; n++ {
		for m := 1; m <= 6; m++ {
			what, w := fmt.Sprint(n, " orders, trucks: ", m), few(n, m)
			ids := all()[:n]
			joins(t, what, w, each(ids...)...)
			var routes []api.Route
			for i := range min(n, m) {
				routes = append(routes, run(1+i, 101+i))
			}
			builds(t, what, w, ids[len(routes):], routes...)
			w.Area = even(13, 100, 199)
			joins(t, what+", 1 saved", w, ids)
			builds(t, what+", 1 saved", w, nil, run(1, ids...))
		}
	}
}

// P10.1: an order that no truck can run alone is in no row, for whatever it can't; others are.
func TestAlone(t *testing.T) {
	for what, change := range map[string]func(w api.World, id int){
		"too heavy":  func(w api.World, id int) { order(w, id).Weight = 1001 },
		"too large":  func(w api.World, id int) { order(w, id).Volume = 1001 },
		"too late":   func(w api.World, id int) { w.Area.Time[id-100] = 11; order(w, id).To = 10 },
		"back late":  func(w api.World, id int) { w.Area.Time[(id-100)*13] = 1000000; order(w, id).Service = 1 },
		"back later": func(w api.World, id int) { order(w, id).From = 1000000; order(w, id).Service = 1 },
	} {
		w := plain()
		change(w, 105)
		joins(t, "one that is "+what, w, each(101, 102, 103, 104, 106, 107, 108, 109, 110, 111, 112)...)
		w.Area.Dist = even(13, 100, 199).Dist
		joins(t, "joined, without one that is "+what, w, []int{101, 102, 103, 104, 106, 107, 108, 109, 110, 111, 112})
		for id := 101; id <= 111; id++ {
			change(w, id)
		}
		joins(t, "all but one that are "+what, w, []int{112})
		builds(t, "all but one that are "+what, w, all()[:11], run(1, 112))
		change(w, 112)
		joins(t, "all that are "+what, w)
		builds(t, "all that are "+what, w, all())
	}
	// As much as can be carried, at the last tick, is still a row; by any one truck.
	w := few(3, 2)
	order(w, 102).Weight, order(w, 102).Volume, order(w, 103).To = 1000, 1000, 10
	w.Area.Time[3] = 10
	joins(t, "just enough", w, each(101, 102, 103)...)
	truck(w, 1).Weight, truck(w, 2).End, w.Area.Time[2] = 999, 0, 1
	joins(t, "a truck for one of them each", w, each(101, 103)...)
}

// P10.1: whom no truck can run alone isn't in a row either where one could behind another one.
func TestOnlyBehindAnother(t *testing.T) {
	w := few(2, 1)
	save(w, 101, 102, 150)
	w.Area.Time[2] = 1000
	order(w, 102).To = 999
	if _, e := route.Run(w, run(1, 101, 102)); e != api.OK {
		t.Fatalf("102 behind 101: %d", e)
	}
	joins(t, "one that is in time behind another one", w, []int{101})
	builds(t, "one that is in time behind another one", w, []int{102}, run(1, 101))
}

// P10.1: rows are joined where more than 0 is saved, and not where 0 is, or less.
func TestSavedDecides(t *testing.T) {
	for saved, joined := range map[int64]bool{-100: false, -1: false, 0: false, 1: true, 2: true, 200: true} {
		w, what := few(2, 1), fmt.Sprint(saved, " saved")
		save(w, 101, 102, saved)
		save(w, 102, 101, -7)
		if joined {
			joins(t, what, w, []int{101, 102})
			builds(t, what, w, nil, run(1, 101, 102))
		} else {
			joins(t, what, w, each(101, 102)...)
			builds(t, what, w, []int{102}, run(1, 101))
		}
		w = few(2, 1)
		save(w, 102, 101, saved)
		if joined {
			joins(t, what+" by the contrary", w, []int{102, 101})
		} else {
			joins(t, what+" by the contrary", w, each(101, 102)...)
		}
	}
}

// P10.1: rows aren't joined where no truck can run what is joined, however much is saved; what saves less is, then.
func TestNoTruckForBoth(t *testing.T) {
	for what, change := range map[string]func(w api.World){
		"too heavy":        func(w api.World) { order(w, 101).Weight, order(w, 102).Weight = 500, 501 },
		"too large":        func(w api.World) { order(w, 101).Volume, order(w, 102).Volume = 500, 501 },
		"too late there":   func(w api.World) { order(w, 101).Service, order(w, 102).To = 11, 10 },
		"too late by then": func(w api.World) { order(w, 101).From, order(w, 102).To = 11, 10 },
		"back too late":    func(w api.World) { w.Area.Time[1*13+2] = 1000000; order(w, 101).Service = 1 },
	} {
		w := few(3, 2)
		save(w, 101, 102, 150)
		joins(t, "not "+what, w, []int{101, 102}, []int{103})
		change(w)
		joins(t, what, w, each(101, 102, 103)...)
		builds(t, what, w, []int{103}, run(1, 101), run(2, 102))
		save(w, 103, 102, 3)
		save(w, 102, 103, 2)
		joins(t, what+", and less saved by others", w, []int{103, 102}, []int{101})
	}
	w := few(2, 1)
	save(w, 101, 102, 150)
	order(w, 101).Weight, order(w, 102).Weight, order(w, 101).Volume, order(w, 102).Volume = 500, 500, 300, 700
	joins(t, "as much as it carries", w, []int{101, 102})
	order(w, 101).Service, order(w, 102).To = 10, 10
	joins(t, "just in time", w, []int{101, 102})
}

// P10.1: where only the contrary can be run, that is joined, though less is saved.
func TestOnlyTheContrary(t *testing.T) {
	w := few(2, 1)
	save(w, 101, 102, 150)
	save(w, 102, 101, 1)
	joins(t, "both can be run", w, []int{101, 102})
	order(w, 101).From, order(w, 102).To = 11, 10
	joins(t, "one can be run", w, []int{102, 101})
}

// P10.1: any one truck will do, wherever it stands, and another one for another row.
func TestSomeTruck(t *testing.T) {
	for at := range 6 {
		w := plain()
		w.Area = even(13, 100, 150)
		for i := range w.Trucks {
			if i != at {
				w.Trucks[i].Weight = 10
			}
		}
		joins(t, fmt.Sprint("one that carries all, at ", at), w, all())
		builds(t, fmt.Sprint("one that carries all, at ", at), w, nil, run(6-at, all()...))
	}
	// Truck 1 runs as far as 102 and 101, and truck 2 as far as 103 and 104: either row can be run by one.
	w := few(4, 2)
	w.Area.Time[3], w.Area.Time[4] = 50, 50
	order(w, 101).To, order(w, 102).To = 10, 10
	truck(w, 1).End, truck(w, 2).Start = 40, 20
	for id := 101; id <= 104; id++ {
		order(w, id).Weight = 500
	}
	save(w, 102, 101, 9)
	save(w, 103, 104, 8)
	joins(t, "a truck for each row", w, []int{102, 101}, []int{103, 104})
	builds(t, "a truck for each row", w, nil, run(1, 102, 101), run(2, 103, 104))
}

// P10.1: those two are joined by which most is saved, whatever their Ids.
func TestMostSaved(t *testing.T) {
	w := few(4, 1)
	truck(w, 1).Weight = 20
	save(w, 101, 102, 50)
	save(w, 103, 104, 51)
	save(w, 104, 102, 52)
	joins(t, "most by the last", w, []int{104, 102}, []int{101}, []int{103})
	save(w, 101, 102, 53)
	joins(t, "most by the first", w, []int{101, 102}, []int{103, 104})
	save(w, 103, 101, 54)
	joins(t, "most by others", w, []int{103, 101}, []int{104, 102})
}

// P10.1: of as much that is saved, a's least first Id decides, whatever b's is, and wherever the orders stand.
func TestLeastFirstOfA(t *testing.T) {
	for _, turned := range []bool{false, true} {
		w := few(4, 1)
		if turned {
			slices.Reverse(w.Orders)
		}
		truck(w, 1).Weight = 20
		save(w, 103, 101, 50)
		save(w, 102, 103, 50)
		joins(t, "102 ahead of 103", w, []int{102, 103}, []int{101}, []int{104})
		save(w, 101, 104, 50)
		joins(t, "101 ahead of 102 and 103", w, []int{101, 104}, []int{102, 103})
		save(w, 103, 102, 51)
		joins(t, "more is saved by 103", w, []int{101, 104}, []int{103, 102})
	}
}

// P10.1: of as much, and of one a, b's least first Id decides.
func TestLeastFirstOfB(t *testing.T) {
	for _, turned := range []bool{false, true} {
		w := few(4, 1)
		if turned {
			slices.Reverse(w.Orders)
		}
		truck(w, 1).Weight = 20
		save(w, 102, 104, 50)
		save(w, 102, 103, 50)
		joins(t, "103 ahead of 104", w, []int{102, 103}, []int{101}, []int{104})
		save(w, 102, 101, 50)
		joins(t, "101 ahead of 103", w, []int{102, 101}, []int{103}, []int{104})
		save(w, 102, 104, 51)
		joins(t, "more is saved by 104", w, []int{102, 104}, []int{101}, []int{103})
	}
}

// P10.1: it is a row's first Id that decides, and none of its others.
func TestFirstIdOfLongerRows(t *testing.T) {
	// 104, 101 is joined first; then as much is saved by 103 behind it, as by 103 behind 102.
	w := few(4, 1)
	truck(w, 1).Weight = 30
	save(w, 104, 101, 90)
	save(w, 101, 103, 50)
	save(w, 102, 103, 50)
	joins(t, "an a of 104, 101", w, []int{102, 103}, []int{104, 101})
	save(w, 101, 103, 51)
	joins(t, "an a by which more is saved", w, []int{104, 101, 103}, []int{102})
	// The same, where b is 104, 101, and the other one 103.
	w = few(4, 1)
	truck(w, 1).Weight = 30
	save(w, 104, 101, 90)
	save(w, 102, 104, 50)
	save(w, 102, 103, 50)
	joins(t, "a b of 104, 101", w, []int{102, 103}, []int{104, 101})
	save(w, 102, 104, 51)
	joins(t, "a b by which more is saved", w, []int{102, 104, 101}, []int{103})
	// By what a row ends, and a b begins, it is 101, 104: its first Id is less than 102, its last one greater.
	w = few(4, 1)
	truck(w, 1).Weight = 30
	save(w, 101, 104, 90)
	save(w, 104, 103, 50)
	save(w, 102, 103, 50)
	joins(t, "an a of 101, 104", w, []int{101, 104, 103}, []int{102})
	w = few(4, 1)
	truck(w, 1).Weight = 30
	save(w, 101, 104, 90)
	save(w, 102, 101, 50)
	save(w, 102, 103, 50)
	joins(t, "a b of 101, 104", w, []int{102, 101, 104}, []int{103})
}

// P10.1: a row is joined again and again, at its end, at its head, and with another one of several orders.
func TestJoinedAgain(t *testing.T) {
	w := few(5, 1)
	save(w, 102, 103, 90)
	save(w, 103, 105, 80)
	save(w, 105, 101, 70)
	joins(t, "at its end", w, []int{102, 103, 105, 101}, []int{104})
	w = few(5, 1)
	save(w, 102, 103, 90)
	save(w, 105, 102, 80)
	save(w, 101, 105, 70)
	joins(t, "at its head", w, []int{101, 105, 102, 103}, []int{104})
	w = few(5, 1)
	save(w, 102, 103, 90)
	save(w, 105, 102, 80)
	save(w, 103, 101, 70)
	save(w, 104, 105, 60)
	joins(t, "at both", w, []int{104, 105, 102, 103, 101})
	w = few(5, 1)
	save(w, 104, 101, 90)
	save(w, 102, 105, 80)
	save(w, 105, 103, 70)
	save(w, 103, 104, 60)
	joins(t, "two of several", w, []int{102, 105, 103, 104, 101})
	// What was saved between an end and a head counts no more, once either is inside.
	w = few(4, 1)
	save(w, 101, 102, 90)
	save(w, 101, 103, 89)
	save(w, 104, 102, 88)
	joins(t, "by what is inside", w, []int{101, 102}, []int{103}, []int{104})
	// A row isn't joined with itself, though much would be saved.
	w = few(3, 1)
	save(w, 101, 102, 90)
	save(w, 102, 101, 89)
	joins(t, "a row's own head", w, []int{101, 102}, []int{103})
}

// P10.1: rows of more orders come first, of as many those by lesser first Ids, whenever they were joined.
func TestRowsSorted(t *testing.T) {
	w := plain()
	save(w, 112, 101, 10)
	save(w, 105, 104, 90)
	save(w, 104, 106, 80)
	save(w, 110, 102, 20)
	save(w, 109, 111, 30)
	save(w, 111, 103, 40)
	joins(t, "rows of 3, 3, 2, 2, 1, 1", w, []int{105, 104, 106}, []int{109, 111, 103}, []int{110, 102}, []int{112, 101}, []int{107}, []int{108})
	save(w, 106, 112, 5)
	joins(t, "rows of 5, 3, 2, 1, 1", w, []int{105, 104, 106, 112, 101}, []int{109, 111, 103}, []int{110, 102}, []int{107}, []int{108})
}

// P10.2: of trucks by which a row costs as much, the one of the least Id runs it, wherever it stands.
func TestLeastTruck(t *testing.T) {
	w := few(3, 6)
	builds(t, "trucks alike, that fall", w, nil, run(1, 101), run(2, 102), run(3, 103))
	slices.Reverse(w.Trucks)
	builds(t, "trucks alike, that rise", w, nil, run(1, 101), run(2, 102), run(3, 103))
	w.Trucks[0], w.Trucks[3] = w.Trucks[3], w.Trucks[0]
	builds(t, "trucks alike, in no order", w, nil, run(1, 101), run(2, 102), run(3, 103))
	truck(w, 1).Weight, truck(w, 3).End = 9, 0
	truck(w, 3).Start, truck(w, 2).Fixed = 0, 51
	w.Area.Time[1], w.Area.Time[2], w.Area.Time[3] = 1, 1, 1
	builds(t, "the first that can, at as much", w, nil, run(4, 101), run(5, 102), run(6, 103))
	truck(w, 4).Fixed, truck(w, 4).Rate, truck(w, 2).Fixed, truck(w, 2).Rate = 250, 0, 150, 0
	truck(w, 5).Fixed, truck(w, 6).Fixed = 49, 51
	builds(t, "by other costs", w, nil, run(2, 101), run(5, 102), run(4, 103))
}

// P10.2: the truck of the least cost runs a row, by Fixed and Rate, whichever its Id, and each row's own.
func TestCheapestTruck(t *testing.T) {
	w := few(2, 3)
	truck(w, 1).Fixed, truck(w, 2).Fixed, truck(w, 3).Fixed = 52, 51, 50
	builds(t, "the least Fixed", w, nil, run(3, 101), run(2, 102))
	truck(w, 3).Rate = 2
	builds(t, "the least of both", w, nil, run(2, 101), run(1, 102))
	// A row of 200 costs 250 by truck 1, and 200 by truck 2, one of 20 costs 70, and 200.
	w = few(2, 2)
	w.Area.Dist[2], w.Area.Dist[2*13] = 10, 10
	truck(w, 2).Fixed, truck(w, 2).Rate = 200, 0
	builds(t, "far and near", w, nil, run(2, 101), run(1, 102))
	w.Area.Dist[1], w.Area.Dist[1*13], w.Area.Dist[2], w.Area.Dist[2*13] = 10, 10, 100, 100
	builds(t, "near and far", w, nil, run(1, 101), run(2, 102))
	// Whoever comes first takes the cheapest one; nobody gives it back.
	truck(w, 2).Fixed = 60
	builds(t, "the cheapest one of both", w, nil, run(2, 101), run(1, 102))
}

// P10.2: a row that finds no truck any more is run by none; those behind it are, where they find one.
func TestRowWithoutTruck(t *testing.T) {
	w := few(5, 2)
	save(w, 104, 102, 50)
	save(w, 105, 101, 50)
	truck(w, 1).Weight = 20
	truck(w, 2).Weight = 10
	joins(t, "a truck for both rows of two", w, []int{104, 102}, []int{105, 101}, []int{103})
	builds(t, "a truck for both rows of two", w, []int{101, 105}, run(1, 104, 102), run(2, 103))
	truck(w, 2).Volume = 9
	builds(t, "no truck for the others", w, []int{101, 103, 105}, run(1, 104, 102))
	truck(w, 2).Weight, truck(w, 2).Volume = 20, 20
	builds(t, "a truck for each row of two", w, []int{103}, run(1, 104, 102), run(2, 105, 101))
}

// P10.2: routes stand as rows do, and the Unserved rise: those of rows without a truck, and those that no truck can run.
func TestUnserved(t *testing.T) {
	w := plain()
	save(w, 112, 103, 90)
	save(w, 111, 104, 80)
	save(w, 107, 102, 70)
	save(w, 102, 109, 60)
	order(w, 108).Weight, order(w, 101).Weight, order(w, 110).Volume = 1001, 1001, 1001
	joins(t, "rows of 3, 2, 2, 1, 1", w, []int{107, 102, 109}, []int{111, 104}, []int{112, 103}, []int{105}, []int{106})
	builds(t, "a truck for each", w, []int{101, 108, 110}, run(1, 107, 102, 109), run(2, 111, 104), run(3, 112, 103), run(4, 105), run(5, 106))
	w.Trucks = w.Trucks[4:]
	builds(t, "2 trucks", w, []int{101, 103, 105, 106, 108, 110, 112}, run(1, 107, 102, 109), run(2, 111, 104))
	w.Trucks = w.Trucks[1:]
	builds(t, "1 truck", w, []int{101, 103, 104, 105, 106, 108, 110, 111, 112}, run(1, 107, 102, 109))
	w.Trucks[0].Weight = 9
	builds(t, "1 truck that can run none", w, all())
}

// P10.1, P10.2: the document's example: two orders, at the same node, far from the depot, and a truck that carries both.
func TestExample(t *testing.T) {
	w := few(2, 1)
	order(w, 102).Node = 1
	joins(t, "two at the same node", w, []int{101, 102})
	builds(t, "two at the same node", w, nil, run(1, 101, 102))
	saves(t, "two at the same node", w, []int{101}, []int{102}, 200, api.OK)
}

// drawnWorld is of few nodes and short ways, so that there is much that is alike, and of what can hardly be run.
func drawnWorld(r *rand.Rand) api.World {
	n := 2 + r.Intn(6)
	far := int64(3 + r.Intn(30))
	w := api.World{Area: even(n, 0, 0)}
	for at := range n * n {
		if at/n != at%n {
			w.Area.Dist[at], w.Area.Time[at] = r.Int63n(far), r.Int63n(20)
		}
	}
	ids := r.Perm(20)
	for i := range r.Intn(9) {
		from := r.Int63n(60)
		w.Orders = append(w.Orders, api.Order{Id: 1 + ids[i], Node: 1 + r.Intn(n-1), Weight: 1 + r.Int63n(9), Volume: 1 + r.Int63n(9), From: from, To: from + r.Int63n(80), Service: r.Int63n(4)})
	}
	ids = r.Perm(9)
	for i := range r.Intn(5) {
		start := r.Int63n(20)
		w.Trucks = append(w.Trucks, api.Truck{Id: 1 + ids[i], Weight: 5 + r.Int63n(20), Volume: 5 + r.Int63n(20), Start: start, End: start + 20 + r.Int63n(120), Fixed: r.Int63n(5), Rate: r.Int63n(3)})
	}
	return w
}

// holdsWhatFollows holds P10.3.
func holdsWhatFollows(t *testing.T, what string, w api.World) {
	t.Helper()
	rows, _ := savings.Rows(w)
	in := map[int]int{}
	for _, row := range rows {
		if len(runners(w, row)) == 0 {
			t.Errorf("%s: nobody can run %v", what, row)
		}
		for _, id := range row {
			in[id]++
		}
	}
	for _, o := range w.Orders {
		if want := min(1, len(runners(w, []int{o.Id}))); in[o.Id] != want {
			t.Errorf("%s: %d is in %d rows; asked %d", what, o.Id, in[o.Id], want)
		}
		delete(in, o.Id)
	}
	if len(in) > 0 {
		t.Errorf("%s: rows of none of its orders: %v", what, in)
	}
	p, _ := savings.Build(w)
	if _, e := plan.Check(w, p); e != api.OK {
		t.Errorf("%s: %v may not be: %d", what, p, e)
	}
}

// P10.1, P10.2, P10.3: drawn worlds, against the model; what is seen is held to be much.
func TestDrawn(t *testing.T) {
	r := rand.New(rand.NewSource(21))
	seen := map[string]int{}
	for range 3000 {
		w := drawnWorld(r)
		what := fmt.Sprintf("drawn %+v", w)
		rows, p := wantRows(w), wantBuild(w)
		joins(t, what, w, rows...)
		builds(t, what, w, p.Unserved, p.Routes...)
		holdsWhatFollows(t, what, w)
		for _, a := range w.Orders {
			for _, b := range w.Orders {
				saves(t, what, w, []int{a.Id}, []int{b.Id}, wantSaved(w, []int{a.Id}, []int{b.Id}), api.OK)
			}
		}
		orders := 0
		for _, row := range rows {
			seen[fmt.Sprint("of ", min(len(row), 4))]++
			orders += len(row)
		}
		if len(p.Routes) < len(rows) {
			seen["without a truck"]++
		}
		if orders < len(w.Orders) {
			seen["not alone"]++
		}
		if !slices.IsSortedFunc(p.Routes, func(x, y api.Route) int { return x.Truck - y.Truck }) {
			seen["not by Ids"]++
		}
	}
	for _, kind := range []string{"of 1", "of 2", "of 3", "of 4", "without a truck", "not alone", "not by Ids"} {
		if seen[kind] < 100 {
			t.Errorf("only %d: %s", seen[kind], kind)
		}
	}
}

// P10.1, P10.2: as many orders and trucks as may be, drawn.
func TestDrawnFull(t *testing.T) {
	r := rand.New(rand.NewSource(22))
	for range 25 {
		w := plain()
		for at := range 169 {
			if at/13 != at%13 {
				w.Area.Dist[at], w.Area.Time[at] = r.Int63n(50), r.Int63n(50)
			}
		}
		for at := range w.Trucks {
			w.Trucks[at].Weight, w.Trucks[at].Rate = 20+r.Int63n(60), r.Int63n(4)
		}
		what, p := fmt.Sprintf("drawn %+v", w), wantBuild(w)
		joins(t, what, w, wantRows(w)...)
		builds(t, what, w, p.Unserved, p.Routes...)
		holdsWhatFollows(t, what, w)
	}
}

// P10.1, P10.2: answers share nothing with the arguments, with one another, or within themselves.
func TestAnswersAreNew(t *testing.T) {
	w := plain()
	save(w, 112, 103, 90)
	save(w, 103, 104, 80)
	save(w, 107, 102, 70)
	kept, rows, p := copied(w), wantRows(w), wantBuild(w)
	l, _ := savings.Rows(w)
	q, _ := savings.Build(w)
	// What an append writes behind one list may not be another one.
	for at := range l {
		_ = append(l[at], 1, 2, 3)
	}
	for at := range q.Routes {
		_ = append(q.Routes[at].Stops, 1, 2, 3)
	}
	_ = append(q.Unserved, 1, 2, 3)
	if !sameRows(l, rows) || !samePlan(p, q) {
		t.Errorf("lists of an answer share: %v, %v", l, q)
	}
	for at := range l {
		for i := range l[at] {
			l[at][i] = 0
		}
	}
	for at := range q.Routes {
		clear(q.Routes[at].Stops)
	}
	clear(q.Routes)
	clear(q.Unserved)
	clear(l)
	if !reflect.DeepEqual(w, kept) {
		t.Error("an answer shares with what was given")
	}
	joins(t, "the same, behind answers that were changed", w, rows...)
	builds(t, "the same, behind answers that were changed", w, p.Unserved, p.Routes...)
	l, _ = savings.Rows(w)
	q, _ = savings.Build(w)
	clear(w.Orders)
	clear(w.Trucks)
	clear(w.Area.Dist)
	if !sameRows(l, rows) || !samePlan(p, q) {
		t.Error("an answer changed by what was given")
	}
}
