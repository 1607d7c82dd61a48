package table_test

import (
	"fmt"
	"math"
	"math/rand"
	"reflect"
	"slices"
	"testing"

	"groupage/api"
	"groupage/better"
	"groupage/plan"
	"groupage/route"
	"groupage/savings"
	"groupage/table"
)

// plain is a world in which steps tell: of the orders 11, 12 and 13, of the owners 4, 6 and 9, at the nodes 1, 2 and 3, no two are joined, as by way of the depot it is no farther, and there is one truck, that carries all. From the depot and back it is 10 to the first two nodes, and 50 to the third one; from the first to the second 20, the other way 30, and 100 from or to the third.
func plain() api.World {
	return api.World{
		Area: api.Area{N: 4, Dist: []int64{
			0, 10, 10, 50,
			10, 0, 20, 100,
			10, 30, 0, 100,
			50, 100, 100, 0,
		}, Time: make([]int64, 16)},
		Orders: []api.Order{order(12, 6, 2), order(13, 9, 3), order(11, 4, 1)},
		Trucks: []api.Truck{{Id: 2, Weight: 90, Volume: 90, End: 1000, Fixed: 100, Rate: 1}},
	}
}

func order(id, owner, node int) api.Order {
	return api.Order{Id: id, Owner: owner, Node: node, Weight: 10, Volume: 10, To: 1000}
}

// mixed is a world of 12 orders, of Ids 101 to 112 that don't rise, of the owners 30, 0, 31, 7, 2 and 19, in this order again and again.
func mixed() api.World {
	w := plain()
	w.Orders = nil
	for i := range 12 {
		w.Orders = append(w.Orders, order(101+(i*5+4)%12, []int{30, 0, 31, 7, 2, 19}[i%6], 1+i%3))
	}
	return w
}

// small is a world of two nodes, with a truck that goes there and back for 41, and so many orders there, each of an owner of its own, rising, and none of a weight that counts.
func small(owners ...int) api.World {
	w := api.World{
		Area:   api.Area{N: 2, Dist: []int64{0, 5, 6, 0}, Time: make([]int64, 4)},
		Trucks: []api.Truck{{Id: 1, Weight: 1000, Volume: 1000, Fixed: 30, Rate: 1}},
	}
	for at, owner := range owners {
		w.Orders = append(w.Orders, order(1+at, owner, 1))
	}
	return w
}

// such are lists of players, with none that aren't.
func such() [][]int {
	return [][]int{nil, {}, {0}, {31}, {17}, {0, 31}, {30, 31}, {3, 8}, {0, 1, 2}, {4, 6, 9}, {0, 7, 30, 31}, {0, 2, 7, 19, 30}, {0, 1, 2, 3, 4, 5}, {26, 27, 28, 29, 30, 31}, {0, 2, 7, 19, 30, 31}, {1, 3, 5, 8, 13, 21}}
}

// other are lists that are none of players.
func other() [][]int {
	l := [][]int{
		{-1}, {32}, {-1, 0}, {-1, 31}, {0, 32}, {31, 32}, {33}, {100}, {256}, {1 << 32}, {4 - 1<<32}, {math.MinInt}, {math.MaxInt}, {0, math.MaxInt}, {math.MinInt, 4},
		{0, 0}, {4, 4}, {31, 31}, {4, 6, 6}, {4, 4, 6}, {4, 6, 6, 9}, {4, 6, 4},
		{1, 0}, {31, 0}, {6, 4}, {4, 9, 6}, {9, 6, 4}, {0, 2, 1, 3}, {-1, -1}, {32, 32}, {32, 4},
		{0, 1, 2, 3, 4, 5, 6}, {25, 26, 27, 28, 29, 30, 31}, {0, 0, 0, 0, 0, 0, 0}, {0, 1, 2, 3, 4, 5, 6, 7}, make([]int, 40), {0, 2, 7, 19, 30, 31, 32}, {-1, 0, 2, 7, 19, 30, 31},
	}
	full := []int{0, 2, 7, 19, 30, 31}
	for at := range full {
		for _, owner := range append(full, -1, 32) {
			x := slices.Clone(full)
			x[at] = owner
			if owner != full[at] {
				l = append(l, x)
			}
		}
	}
	return l
}

func copied(w api.World) api.World {
	w.Area.Dist, w.Area.Time = slices.Clone(w.Area.Dist), slices.Clone(w.Area.Time)
	w.Orders, w.Trucks = slices.Clone(w.Orders), slices.Clone(w.Trucks)
	return w
}

// roomy is a list with room behind its end, which holds some x there.
func roomy[T any](l []T, x T) []T {
	return append(slices.Clone(l), x, x, x)[:len(l)]
}

// kept tells that a roomy list is as it was, also behind its end.
func kept[T comparable](l, was []T, x T) bool {
	return slices.Equal(l, was) && slices.Equal(l[len(l):len(l)+3], []T{x, x, x})
}

// The things that stand behind the ends of roomy lists.
var (
	noOrder = api.Order{Id: 77, Owner: 4, Node: 1, Weight: 1, Volume: 1}
	noTruck = api.Truck{Id: 77, Weight: 1, Volume: 1}
)

// given is a world and players, with room behind the ends of all lists, and what they were.
type given struct {
	w, ofW       api.World
	players, ofP []int
}

func give(w api.World, players []int) given {
	g := given{w: w, ofW: copied(w), ofP: slices.Clone(players), players: roomy(players, 77)}
	g.w.Area.Dist, g.w.Area.Time = roomy(w.Area.Dist, 77), roomy(w.Area.Time, 77)
	g.w.Orders, g.w.Trucks = roomy(w.Orders, noOrder), roomy(w.Trucks, noTruck)
	return g
}

// same holds that what was given is as it was.
func (g given) same(t *testing.T, what string) {
	t.Helper()
	a, b := g.w.Area, g.ofW.Area
	if a.N != b.N || !kept(a.Dist, b.Dist, 77) || !kept(a.Time, b.Time, 77) || !kept(g.w.Orders, g.ofW.Orders, noOrder) || !kept(g.w.Trucks, g.ofW.Trucks, noTruck) || !kept(g.players, g.ofP, 77) {
		t.Errorf("%s changed what it was given, or shares something with it", what)
	}
}

// fill writes one thing all over a list's memory.
func fill[T any](l []T, x T) {
	l = l[:cap(l)]
	for at := range l {
		l[at] = x
	}
}

func sameWorld(v, w api.World) bool {
	return v.Area.N == w.Area.N && slices.Equal(v.Area.Dist, w.Area.Dist) && slices.Equal(v.Area.Time, w.Area.Time) && slices.Equal(v.Orders, w.Orders) && slices.Equal(v.Trucks, w.Trucks)
}

func samePlan(p, q api.Plan) bool {
	return slices.Equal(p.Unserved, q.Unserved) && slices.EqualFunc(p.Routes, q.Routes, func(x, y api.Route) bool {
		return x.Truck == y.Truck && slices.Equal(x.Stops, y.Stops)
	})
}

// wantPlayers is P13.1's Players: whoever is an owner, looked for from the least one.
func wantPlayers(w api.World) []int {
	owns := map[int]bool{}
	for _, o := range w.Orders {
		owns[o.Owner] = true
	}
	var l []int
	for len(owns) > 0 {
		least := math.MaxInt
		for owner := range owns {
			least = min(least, owner)
		}
		l = append(l, least)
		delete(owns, least)
	}
	return l
}

// arePlayers is what the Words say of players.
func arePlayers(l []int) bool {
	for at, x := range l {
		for _, y := range l[:at] {
			if y >= x {
				return false
			}
		}
		if x < 0 || x > 31 {
			return false
		}
	}
	return len(l) <= 6
}

// members are those who are in a coalition: its digits, by twos, from the lowest one on.
func members(players []int, coalition int) []int {
	var l []int
	for _, x := range players {
		if coalition%2 == 1 {
			l = append(l, x)
		}
		coalition /= 2
	}
	return l
}

// coalitions tells how many there are of some players.
func coalitions(players []int) int {
	n := 1
	for range players {
		n *= 2
	}
	return n
}

// wantPart is P13.1's Part.
func wantPart(w api.World, players []int, coalition int) (api.World, api.Errno) {
	if !arePlayers(players) || coalition < 0 || coalition >= coalitions(players) {
		return api.World{}, api.ErrArg
	}
	v := copied(w)
	v.Orders = slices.DeleteFunc(v.Orders, func(o api.Order) bool { return !slices.Contains(members(players, coalition), o.Owner) })
	return v, api.OK
}

// wantPlan is P13.1's Plan.
func wantPlan(w api.World, steps int) (api.Plan, int64, api.Errno) {
	if e := route.World(w); e != api.OK {
		return api.Plan{}, 0, e
	}
	if steps < 0 || steps > 100000 {
		return api.Plan{}, 0, api.ErrArg
	}
	first, _ := savings.Build(w)
	p, _, _ := better.Improve(w, first, steps)
	cost, _ := plan.Check(w, p)
	return p, cost, api.OK
}

// wantCosts is P13.2's Costs.
func wantCosts(w api.World, players []int, steps int, whole int64) ([]int64, api.Errno) {
	if e := route.World(w); e != api.OK {
		return nil, e
	}
	if !arePlayers(players) || steps < 0 || steps > 100000 || whole < 0 || whole > 1099511627776 {
		return nil, api.ErrArg
	}
	var l []int64
	for coalition := range coalitions(players) {
		cost := whole
		if n := len(members(players, coalition)); n == 0 || n < len(players) {
			part, _ := wantPart(w, players, coalition)
			_, cost, _ = wantPlan(part, steps)
		}
		l = append(l, cost)
	}
	return l, api.OK
}

// owners asks for players, twice, and holds them against what is wanted.
func owners(t *testing.T, what string, w api.World, want []int) {
	t.Helper()
	if !slices.Equal(wantPlayers(w), want) {
		t.Errorf("%s: asked %v, where the model tells %v", what, want, wantPlayers(w))
	}
	g := give(w, nil)
	first := table.Players(g.w)
	fill(first, -1)
	second := table.Players(g.w)
	fill(first, -2)
	if !slices.Equal(second, want) {
		t.Errorf("Players of %s: %v; asked %v", what, second, want)
	}
	g.same(t, "Players of "+what)
}

// parts asks for a coalition's world, twice, and holds it against what is wanted: the Ids of its orders, and all else as it was.
func parts(t *testing.T, what string, w api.World, players []int, coalition int, ids []int, e api.Errno) {
	t.Helper()
	model, f := wantPart(w, players, coalition)
	if f != e || !slices.Equal(idsOf(model), ids) {
		t.Errorf("%s, %v, %d: asked %v, %d, where the model tells %v, %d", what, players, coalition, ids, e, idsOf(model), f)
	}
	g := give(w, players)
	first, f := table.Part(g.w, g.players, coalition)
	if f != e || !sameWorld(first, model) {
		t.Errorf("Part of %s, %v, %d: %+v, %d; asked %+v, %d", what, players, coalition, first, f, model, e)
	}
	fill(first.Orders, api.Order{Id: -1})
	second, f := table.Part(g.w, g.players, coalition)
	fill(first.Orders, api.Order{Id: -2})
	if f != e || !sameWorld(second, model) {
		t.Errorf("Part of %s, %v, %d, again: %+v, %d; asked %+v, %d", what, players, coalition, second, f, model, e)
	}
	g.same(t, "Part of "+what)
}

func idsOf(w api.World) []int {
	var ids []int
	for _, o := range w.Orders {
		ids = append(ids, o.Id)
	}
	return ids
}

// wreck writes all over a plan's memory, and tells whether no two of its lists share something.
func wreck(p api.Plan) bool {
	lists := [][]int{p.Unserved}
	for _, r := range p.Routes[:cap(p.Routes)] {
		lists = append(lists, r.Stops)
	}
	for n, l := range lists {
		fill(l, -n)
	}
	for n, l := range lists {
		if slices.ContainsFunc(l[:cap(l)], func(x int) bool { return x != -n }) {
			return false
		}
	}
	for at := range p.Routes {
		p.Routes[at].Truck = -1
	}
	return true
}

// plans asks for a plan, twice, and holds it against what is wanted.
func plans(t *testing.T, what string, w api.World, steps int, want api.Plan, cost int64, e api.Errno) {
	t.Helper()
	if p, c, f := wantPlan(w, steps); !samePlan(p, want) || c != cost || f != e {
		t.Errorf("%s, %d steps: asked %v, %d, %d, where the model tells %v, %d, %d", what, steps, want, cost, e, p, c, f)
	}
	g := give(w, nil)
	for range 2 {
		p, c, f := table.Plan(g.w, steps)
		if !samePlan(p, want) || c != cost || f != e {
			t.Errorf("Plan of %s, %d steps: %v, %d, %d; asked %v, %d, %d", what, steps, p, c, f, want, cost, e)
		}
		if !wreck(p) {
			t.Errorf("Plan of %s, %d steps: two lists share something", what, steps)
		}
		g.same(t, "Plan of "+what)
	}
}

// costs asks for the costs, twice, and holds them against what is wanted.
func costs(t *testing.T, what string, w api.World, players []int, steps int, whole int64, want []int64, e api.Errno) {
	t.Helper()
	if l, f := wantCosts(w, players, steps, whole); !slices.Equal(l, want) || f != e {
		t.Errorf("%s, %v, %d steps, %d: asked %v, %d, where the model tells %v, %d", what, players, steps, whole, want, e, l, f)
	}
	g := give(w, players)
	first, f := table.Costs(g.w, g.players, steps, whole)
	if !slices.Equal(first, want) || f != e {
		t.Errorf("Costs of %s, %v, %d steps, %d: %v, %d; asked %v, %d", what, players, steps, whole, first, f, want, e)
	}
	fill(first, -1)
	second, f := table.Costs(g.w, g.players, steps, whole)
	fill(first, -2)
	if !slices.Equal(second, want) || f != e {
		t.Errorf("Costs of %s, %v, %d steps, %d, again: %v, %d; asked %v, %d", what, players, steps, whole, second, f, want, e)
	}
	g.same(t, "Costs of "+what)
}

// bad is a world that may not be, and route.World's error of it.
type bad struct {
	what   string
	change func(*api.World)
	e      api.Errno
}

// badWorlds are what may be wrong in mixed, each at least once at the place that is looked at last.
func badWorlds() []bad {
	return []bad{
		{"nothing", func(w *api.World) { *w = api.World{} }, api.ErrArg},
		{"no nodes", func(w *api.World) { w.Area = api.Area{} }, api.ErrArg},
		{"nodes below 0", func(w *api.World) { w.Area.N = -4 }, api.ErrArg},
		{"17 nodes", func(w *api.World) { w.Area = api.Area{N: 17, Dist: make([]int64, 289), Time: make([]int64, 289)} }, api.ErrArg},
		{"a distance less", func(w *api.World) { w.Area.Dist = w.Area.Dist[:15] }, api.ErrArg},
		{"a time more", func(w *api.World) { w.Area.Time = append(w.Area.Time, 0) }, api.ErrArg},
		{"a distance too great", func(w *api.World) { w.Area.Dist[1] = 1000001 }, api.ErrArg},
		{"a time below 0", func(w *api.World) { w.Area.Time[14] = -1 }, api.ErrArg},
		{"a way to itself", func(w *api.World) { w.Area.Dist[15] = 1 }, api.ErrArg},
		{"13 orders", func(w *api.World) { w.Orders = append(w.Orders, order(113, 30, 1)) }, api.ErrFull},
		{"7 trucks", func(w *api.World) {
			w.Trucks = slices.Repeat(w.Trucks, 7)
			for at := range w.Trucks {
				w.Trucks[at].Id = 1 + at
			}
		}, api.ErrFull},
		{"an order at the depot", func(w *api.World) { w.Orders[11].Node = 0 }, api.ErrArg},
		{"an order of no node", func(w *api.World) { w.Orders[0].Node = 4 }, api.ErrArg},
		{"an order of no weight", func(w *api.World) { w.Orders[11].Weight = 0 }, api.ErrArg},
		{"an order of no shipper", func(w *api.World) { w.Orders[11].Owner = 32 }, api.ErrArg},
		{"an order of one below 0", func(w *api.World) { w.Orders[0].Owner = -1 }, api.ErrArg},
		{"an order that is over ahead", func(w *api.World) { w.Orders[5].From = 1001 }, api.ErrArg},
		{"a truck of no Id", func(w *api.World) { w.Trucks[0].Id = 0 }, api.ErrArg},
		{"a Rate too great", func(w *api.World) { w.Trucks[0].Rate = 1001 }, api.ErrArg},
		{"a Fixed below 0", func(w *api.World) { w.Trucks[0].Fixed = -1 }, api.ErrArg},
		{"two orders alike", func(w *api.World) { w.Orders[11].Id = w.Orders[0].Id }, api.ErrTwice},
		{"two trucks alike", func(w *api.World) { w.Trucks = append(w.Trucks, w.Trucks[0]) }, api.ErrTwice},
		{"too many orders, one of no node", func(w *api.World) {
			w.Orders = append(w.Orders, w.Orders...)
			w.Orders[0].Node = 0
		}, api.ErrFull},
		{"two orders alike, and a truck that may not be", func(w *api.World) {
			w.Orders[11].Id = w.Orders[0].Id
			w.Trucks[0].Fixed = -1
		}, api.ErrArg},
	}
}

// world is mixed with what is wrong.
func (b bad) world(t *testing.T) api.World {
	t.Helper()
	w := mixed()
	b.change(&w)
	if e := route.World(w); e != b.e {
		t.Fatalf("%s: the world's error is %d; asked %d", b.what, e, b.e)
	}
	return w
}

// P13.1: Players of no orders, of one owner, of several, whether they rise, fall, or are mixed.
func TestPlayers(t *testing.T) {
	owners(t, "nothing", api.World{}, nil)
	bare := plain()
	bare.Orders = nil
	owners(t, "no orders", bare, nil)
	bare.Orders = []api.Order{}
	owners(t, "an empty list of orders", bare, nil)
	owners(t, "plain", plain(), []int{4, 6, 9})
	owners(t, "mixed", mixed(), []int{0, 2, 7, 19, 30, 31})
	for _, c := range []struct{ of, want []int }{
		{[]int{0}, []int{0}}, {[]int{31}, []int{31}}, {[]int{5, 5, 5, 5}, []int{5}}, {[]int{0, 0}, []int{0}},
		{[]int{3, 8}, []int{3, 8}}, {[]int{8, 3}, []int{3, 8}}, {[]int{8, 3, 8}, []int{3, 8}}, {[]int{3, 8, 3, 3}, []int{3, 8}}, {[]int{8, 8, 3, 3}, []int{3, 8}},
		{[]int{31, 20, 10, 0}, []int{0, 10, 20, 31}}, {[]int{5, 4, 4, 3, 3, 3, 2, 1, 0}, []int{0, 1, 2, 3, 4, 5}},
		{[]int{11, 10, 9, 8, 7, 6, 5, 4, 3, 2, 1, 0}, []int{0, 1, 2, 3, 4, 5, 6, 7, 8, 9, 10, 11}},
	} {
		owners(t, fmt.Sprint("owners ", c.of), small(c.of...), c.want)
	}
	w := mixed()
	w.Trucks = nil
	owners(t, "no trucks", w, []int{0, 2, 7, 19, 30, 31})
	w.Orders[3].Owner = 30 // was 7, as is Orders[9]
	owners(t, "one order's owner changed", w, []int{0, 2, 7, 19, 30, 31})
	w.Orders[9].Owner = 2
	owners(t, "the other's, too", w, []int{0, 2, 19, 30, 31})
}

// P13.1: Players doesn't look at whether the world may be, nor at whether owners may be players, nor at how many there are.
func TestPlayersOfAnything(t *testing.T) {
	for _, b := range badWorlds() {
		w := b.world(t)
		owners(t, b.what, w, wantPlayers(w))
	}
	owners(t, "owners that no shipper is", small(40, -1, 3, math.MaxInt, 32, -1, math.MinInt), []int{math.MinInt, -1, 3, 32, 40, math.MaxInt})
	const n = 300000
	up, down, alike := make([]int, n), make([]int, n), make([]int, n)
	for at := range n {
		up[at], down[at] = at, n-1-at
	}
	for what, l := range map[string][]int{"rising": up, "falling": down, "alike": alike} {
		want := up
		if what == "alike" {
			want = up[:1]
		}
		if got := table.Players(small(l...)); !slices.Equal(got, want) {
			t.Errorf("%d owners, %s: %d players", n, what, len(got))
		}
	}
}

// P13.1: the document's example.
func TestExample(t *testing.T) {
	w := small(8, 3, 3, 8)
	for coalition, ids := range [][]int{nil, {2, 3}, {1, 4}, {1, 2, 3, 4}} {
		parts(t, "the example", w, []int{3, 8}, coalition, ids, api.OK)
	}
	parts(t, "the example", w, []int{3, 8}, 4, nil, api.ErrArg)
}

// P13.1: Part of each coalition: of none, of one alone, of several, of all, with the orders as they stand in the world.
func TestPart(t *testing.T) {
	w := plain() // Ids 12, 13, 11 of the owners 6, 9, 4
	for coalition, ids := range [][]int{nil, {11}, {12}, {12, 11}, {13}, {13, 11}, {12, 13}, {12, 13, 11}} {
		parts(t, "plain", w, []int{4, 6, 9}, coalition, ids, api.OK)
	}
	for coalition, ids := range [][]int{nil, {13}} {
		parts(t, "plain, one player", w, []int{9}, coalition, ids, api.OK)
	}
	for _, none := range [][]int{nil, {}} {
		parts(t, "plain, no players", w, none, 0, nil, api.OK)
	}
	w = mixed() // Ids 105, 110, 103, 108, 101, 106, 111, 104, 109, 102, 107, 112 of the owners 30, 0, 31, 7, 2, 19 and again
	l := []int{0, 2, 7, 19, 30, 31}
	for at, ids := range [][]int{{110, 104}, {101, 107}, {108, 102}, {106, 112}, {105, 111}, {103, 109}} {
		parts(t, "mixed, one alone", w, l, 1<<at, ids, api.OK)
	}
	parts(t, "mixed, none", w, l, 0, nil, api.OK)
	parts(t, "mixed, all", w, l, 63, idsOf(w), api.OK)
	parts(t, "mixed, all but the first one", w, l, 62, []int{105, 103, 108, 101, 106, 111, 109, 102, 107, 112}, api.OK)
	parts(t, "mixed, all but the last one", w, l, 31, []int{105, 110, 108, 101, 106, 111, 104, 102, 107, 112}, api.OK)
	parts(t, "mixed, every other one", w, l, 0b010101, []int{105, 110, 108, 111, 104, 102}, api.OK)
}

// P13.1: a player who owns no order, and an owner who is no player.
func TestPartOfOthers(t *testing.T) {
	w := plain()
	for coalition, ids := range [][]int{nil, nil, {12}, {12}, nil, nil, {12}, {12}} {
		parts(t, "two who own nothing", w, []int{0, 6, 31}, coalition, ids, api.OK)
	}
	for coalition, ids := range [][]int{nil, nil, nil, nil} {
		parts(t, "none who owns anything", w, []int{5, 7}, coalition, ids, api.OK)
	}
	w.Orders = nil
	for coalition := range 8 {
		parts(t, "no orders", w, []int{4, 6, 9}, coalition, nil, api.OK)
	}
	w = small(0, 31, 0, 1, 31)
	for coalition, ids := range [][]int{nil, {1, 3}, {2, 5}, {1, 2, 3, 5}} {
		parts(t, "the first and the last shipper", w, []int{0, 31}, coalition, ids, api.OK)
	}
}

// P13.1: Part of every coalition of all kinds of players, and of none beyond them.
func TestPartOfAll(t *testing.T) {
	for _, players := range such() {
		n := coalitions(players)
		for _, w := range []api.World{plain(), mixed(), small(0, 1, 2, 3, 4, 5, 26, 31, 17, 8, 3, 0)} {
			for coalition := range n {
				want, _ := wantPart(w, players, coalition)
				parts(t, "a world", w, players, coalition, idsOf(want), api.OK)
			}
			for _, coalition := range []int{-1, -2, -n, n, n + 1, 2*n - 1, 2 * n, 64 + n, 1 << 31, 1 << 32, 1<<32 + 1, 1<<32 - 1, 1 << 62, -1 << 62, 1<<62 - 1, math.MaxInt, math.MinInt, math.MinInt + 1} {
				parts(t, "no such coalition", w, players, coalition, nil, api.ErrArg)
			}
		}
	}
}

// P13.1: of players that aren't such there is no coalition, not even that of none.
func TestPartOfNoPlayers(t *testing.T) {
	for _, players := range other() {
		for _, coalition := range []int{0, 1, 2, 3, 63, 64, 127, -1, math.MaxInt, math.MinInt} {
			parts(t, "no players", mixed(), players, coalition, nil, api.ErrArg)
		}
		parts(t, "no players of nothing", api.World{}, players, 0, nil, api.ErrArg)
	}
}

// P13.1: Part doesn't look at whether the world may be.
func TestPartOfAnything(t *testing.T) {
	for _, b := range badWorlds() {
		w := b.world(t)
		for coalition := range 8 {
			want, _ := wantPart(w, []int{0, 7, 30}, coalition)
			parts(t, b.what, w, []int{0, 7, 30}, coalition, idsOf(want), api.OK)
		}
		parts(t, b.what, w, []int{0, 7, 30}, 8, nil, api.ErrArg)
		parts(t, b.what, w, []int{7, 0}, 0, nil, api.ErrArg)
	}
	w := small(-1, 32, 0, 64, 31, -32, math.MinInt, math.MaxInt, 1<<32)
	for coalition, ids := range [][]int{nil, {3}, {5}, {3, 5}} {
		parts(t, "owners that no shipper is", w, []int{0, 31}, coalition, ids, api.OK)
	}
}

// P13.1, R1: long lists of orders, and of what are no players, are answered at once.
func TestLongLists(t *testing.T) {
	const n = 300000
	l := make([]int, n)
	for at := range l {
		l[at] = at
	}
	w := small(l...)
	parts(t, "players up to a great number", mixed(), l, 0, nil, api.ErrArg)
	for at := range l {
		l[at] %= 7
	}
	w = small(l...)
	v, e := table.Part(w, []int{0, 1, 2, 3, 4, 6}, 0b100010)
	if e != api.OK || len(v.Orders) != 85714 || v.Orders[0].Id != 2 || v.Orders[1].Id != 7 || v.Orders[2].Id != 9 {
		t.Errorf("%d orders, %d", len(v.Orders), e)
	}
	if _, e := table.Costs(small(0), l, 0, 0); e != api.ErrArg {
		t.Errorf("many players: %d", e)
	}
}

// P13.1: a world that may not be: its error comes first, whatever the steps are.
func TestPlanOfBadWorld(t *testing.T) {
	for _, b := range badWorlds() {
		for _, steps := range []int{math.MinInt, -1, 0, 1, 50, 100000, 100001, math.MaxInt} {
			plans(t, b.what, b.world(t), steps, api.Plan{}, 0, b.e)
		}
	}
}

// P13.1: ErrArg: steps that may not be, also where no step could be taken.
func TestPlanOfBadSteps(t *testing.T) {
	for what, w := range map[string]api.World{"plain": plain(), "mixed": mixed(), "no orders": small()} {
		for _, steps := range []int{math.MinInt, -1 << 32, -100000, -2, -1, 100001, 100002, 1 << 32, 1<<32 + 5, math.MaxInt} {
			plans(t, what, w, steps, api.Plan{}, 0, api.ErrArg)
		}
	}
}

// P13.1: a plan without steps is what is built; each step up to the last one tells.
func TestPlan(t *testing.T) {
	w := plain()
	w.Orders = []api.Order{w.Orders[0], w.Orders[2]} // 12 and 11
	run := func(stops ...int) api.Plan { return api.Plan{Routes: []api.Route{{Truck: 2, Stops: stops}}} }
	built := run(11)
	built.Unserved = []int{12}
	plans(t, "two orders", w, 0, built, 120, api.OK)
	// The first move that is tried puts 12 ahead of 11; then 12 is put at its own place, which is no better, and then behind 11.
	plans(t, "two orders", w, 1, run(12, 11), 150, api.OK)
	plans(t, "two orders", w, 2, run(12, 11), 150, api.OK)
	for _, steps := range []int{3, 4, 5, 50, 99999, 100000} {
		plans(t, "two orders", w, steps, run(11, 12), 140, api.OK)
	}
	two := plain()
	two.Trucks = append(two.Trucks, api.Truck{Id: 1, Weight: 90, Volume: 90, End: 1000, Fixed: 60, Rate: 3})
	// 11 by truck 1 or 2: 120, of which 1 has the least Id; 12 by the other one: 120; 13 isn't served.
	p := api.Plan{Routes: []api.Route{{Truck: 1, Stops: []int{11}}, {Truck: 2, Stops: []int{12}}}, Unserved: []int{13}}
	plans(t, "two trucks", two, 0, p, 240, api.OK)
	p.Routes[0].Stops, p.Unserved = []int{13, 11}, nil
	plans(t, "two trucks", two, 1, p, 660, api.OK) // 60, and 3 times 160; 120
}

// P13.1: of no orders, or no trucks, a plan has no routes, and costs nothing.
func TestPlanOfNothing(t *testing.T) {
	depot := api.World{Area: api.Area{N: 1, Dist: []int64{0}, Time: []int64{0}}}
	walk := mixed()
	walk.Trucks = nil
	for _, steps := range []int{0, 1, 100000} {
		plans(t, "a depot", depot, steps, api.Plan{}, 0, api.OK)
		plans(t, "no orders", small(), steps, api.Plan{}, 0, api.OK)
		plans(t, "no trucks", walk, steps, api.Plan{Unserved: []int{101, 102, 103, 104, 105, 106, 107, 108, 109, 110, 111, 112}}, 0, api.OK)
	}
}

// P13.2: a world that may not be: its error comes first, whatever else may not be.
func TestCostsOfBadWorld(t *testing.T) {
	for _, b := range badWorlds() {
		for _, players := range [][]int{nil, {0}, {0, 2, 7, 19, 30, 31}, {30, 2}, {32}, {0, 1, 2, 3, 4, 5, 6}} {
			for _, steps := range []int{-1, 0, 100000, 100001} {
				for _, whole := range []int64{-1, 0, 1 << 40, 1<<40 + 1} {
					costs(t, b.what, b.world(t), players, steps, whole, nil, b.e)
				}
			}
		}
	}
}

// P13.2: ErrArg: players that aren't such, steps that may not be, and a whole that may not be, also where there are no players, or no orders.
func TestCostsOfBadArguments(t *testing.T) {
	worlds := map[string]api.World{"plain": plain(), "mixed": mixed(), "no orders": small()}
	for what, w := range worlds {
		for _, players := range other() {
			for _, steps := range []int{0, 10, 100000, -1} {
				costs(t, what+", no players", w, players, steps, 5, nil, api.ErrArg)
			}
		}
		for _, players := range [][]int{nil, {0}, {31}, {4, 6, 9}, {0, 2, 7, 19, 30, 31}} {
			for _, steps := range []int{math.MinInt, -1 << 32, -100000, -1, 100001, 1 << 32, 1<<32 + 5, math.MaxInt} {
				costs(t, what+", no steps", w, players, steps, 5, nil, api.ErrArg)
			}
			for _, whole := range []int64{math.MinInt64, -1 << 40, -1, 1<<40 + 1, 1 << 41, 1 << 62, math.MaxInt64} {
				costs(t, what+", no whole", w, players, 0, whole, nil, api.ErrArg)
			}
		}
	}
}

// P13.2: steps and a whole that just may be.
func TestCostsOfEdges(t *testing.T) {
	w := plain()
	for _, whole := range []int64{0, 1, 1<<40 - 1, 1 << 40} {
		costs(t, "one player", w, []int{4}, 0, whole, []int64{0, whole}, api.OK)
		costs(t, "two", w, []int{4, 9}, 100000, whole, []int64{0, 120, 200, whole}, api.OK)
		costs(t, "one who owns nothing", w, []int{5}, 100000, whole, []int64{0, whole}, api.OK)
		costs(t, "two who own nothing", w, []int{0, 31}, 1, whole, []int64{0, 0, 0, whole}, api.OK)
	}
}

// P13.2: of no players there is the coalition of none, which costs 0, whatever the whole is.
func TestCostsOfNone(t *testing.T) {
	for what, w := range map[string]api.World{"plain": plain(), "mixed": mixed(), "no orders": small()} {
		for _, none := range [][]int{nil, {}} {
			for _, steps := range []int{0, 1, 100000} {
				for _, whole := range []int64{0, 1, 9, 120, 1 << 40} {
					costs(t, what, w, none, steps, whole, []int64{0}, api.OK)
				}
			}
		}
	}
}

// P13.2: several players: by so many steps of each coalition's own.
func TestCosts(t *testing.T) {
	w, l := plain(), []int{4, 6, 9}
	// Each alone: there and back, 20, 20 and 100, and 100 for the truck. Of two the plan that is built serves the one of the lesser Id; by a step the other one is put ahead of it, by two more 12 behind 11.
	costs(t, "plain", w, l, 0, 7, []int64{0, 120, 120, 120, 200, 120, 120, 7}, api.OK)
	costs(t, "plain", w, l, 1, 7, []int64{0, 120, 120, 150, 200, 260, 260, 7}, api.OK)
	costs(t, "plain", w, l, 2, 7, []int64{0, 120, 120, 150, 200, 260, 260, 7}, api.OK)
	for _, steps := range []int{3, 4, 1000, 100000} {
		costs(t, "plain", w, l, steps, 7, []int64{0, 120, 120, 140, 200, 260, 260, 7}, api.OK)
	}
	costs(t, "plain, two players", w, []int{6, 9}, 3, 7, []int64{0, 120, 200, 7}, api.OK)
	costs(t, "plain, and two who own nothing", w, []int{0, 4, 6, 31}, 3, 7, []int64{0, 0, 120, 120, 120, 120, 140, 140, 0, 0, 120, 120, 120, 120, 140, 7}, api.OK)
}

// P13.2: MostPlayers of them, in a world where what a coalition costs hangs on whom it has.
func TestCostsOfMostPlayers(t *testing.T) {
	w := small(0, 7, 13, 20, 30, 31)
	for at := range w.Orders {
		w.Orders[at].Weight = 1 << at
	}
	w.Trucks = nil
	for at := range 6 {
		w.Trucks = append(w.Trucks, api.Truck{Id: 1 + at, Weight: 2<<at - 1, Volume: 1000, Fixed: 10 << at, Rate: 1})
	}
	// All are joined, so the cheapest truck that carries the greatest one carries all; the first one carries the first one alone.
	var want []int64
	for coalition := range 63 {
		cost := int64(0)
		for at := range 6 {
			if coalition>>at == 1 {
				cost = 10<<at + 11
			}
		}
		want = append(want, cost)
	}
	costs(t, "six players", w, []int{0, 7, 13, 20, 30, 31}, 0, 3, append(want, 3), api.OK)
}

// P13.2: of no orders, or no trucks, each but all of them costs nothing.
func TestCostsOfNothing(t *testing.T) {
	walk := mixed()
	walk.Trucks = nil
	depot := api.World{Area: api.Area{N: 1, Dist: []int64{0}, Time: []int64{0}}, Trucks: plain().Trucks}
	for what, w := range map[string]api.World{"no orders": small(), "no trucks": walk, "a depot": depot} {
		for _, players := range such() {
			want := make([]int64, coalitions(players))
			if len(players) > 0 {
				want[len(want)-1] = 44
			}
			for _, steps := range []int{0, 1, 100000} {
				costs(t, what, w, players, steps, 44, want, api.OK)
			}
		}
	}
}

// drawnWorld is a world of up to n orders, of few owners, and up to m trucks, of which some carry little.
func drawnWorld(r *rand.Rand, n, m int) api.World {
	w := api.World{Area: api.Area{N: 2 + r.Intn(n)}}
	for at := range w.Area.N * w.Area.N {
		dist, time := r.Int63n(200), r.Int63n(9)
		if at/w.Area.N == at%w.Area.N {
			dist, time = 0, 0
		}
		w.Area.Dist, w.Area.Time = append(w.Area.Dist, dist), append(w.Area.Time, time)
	}
	shippers := drawnPlayers(r)
	for i := range r.Intn(n + 1) {
		from := r.Int63n(30)
		o := api.Order{Id: 1 + i*3 + r.Intn(3), Owner: r.Intn(32), Node: 1 + r.Intn(w.Area.N-1), Weight: 1 + r.Int63n(9), Volume: 1 + r.Int63n(9), From: from, To: from + r.Int63n(100)}
		if len(shippers) > 0 && r.Intn(8) > 0 {
			o.Owner = shippers[r.Intn(len(shippers))]
		}
		w.Orders = append(w.Orders, o)
	}
	for i := range r.Intn(m + 1) {
		w.Trucks = append(w.Trucks, api.Truck{Id: 1 + i, Weight: 8 + r.Int63n(20), Volume: 8 + r.Int63n(20), End: 40 + r.Int63n(200), Fixed: r.Int63n(300), Rate: r.Int63n(9)})
	}
	r.Shuffle(len(w.Orders), func(i, j int) { w.Orders[i], w.Orders[j] = w.Orders[j], w.Orders[i] })
	r.Shuffle(len(w.Trucks), func(i, j int) { w.Trucks[i], w.Trucks[j] = w.Trucks[j], w.Trucks[i] })
	return w
}

// drawnPlayers are some players.
func drawnPlayers(r *rand.Rand) []int {
	return slices.Sorted(slices.Values(r.Perm(32)[:r.Intn(7)]))
}

// playersOf are players of a drawn world: most often its owners, or some of them, and others.
func playersOf(r *rand.Rand, w api.World) []int {
	l := wantPlayers(w)
	if r.Intn(3) == 0 {
		l = append(l, r.Intn(32))
	}
	r.Shuffle(len(l), func(i, j int) { l[i], l[j] = l[j], l[i] })
	l = slices.Sorted(slices.Values(l[:min(len(l), r.Intn(8))]))
	if r.Intn(6) > 0 {
		l = slices.Compact(l)
	}
	return l
}

// P13.1: drawn worlds, players and coalitions.
func TestDrawnParts(t *testing.T) {
	r := rand.New(rand.NewSource(1))
	seen, some, left := map[api.Errno]int{}, 0, 0
	for range 6000 {
		w := drawnWorld(r, 12, 6)
		owners(t, "a drawn world", w, wantPlayers(w))
		players := playersOf(r, w)
		coalition := r.Intn(coalitions(players)*5/4 + 1)
		want, e := wantPart(w, players, coalition)
		seen[e]++
		if n := len(want.Orders); e == api.OK && n > 0 && n < len(w.Orders) {
			some++
			if len(members(players, coalition)) == len(players) {
				left++
			}
		}
		parts(t, "a drawn world", w, players, coalition, idsOf(want), e)
	}
	if seen[api.OK] < 2000 || seen[api.ErrArg] < 500 || some < 1000 || left < 100 {
		t.Errorf("only %v, %d of some orders, %d of all players' but not all", seen, some, left)
	}
}

// P13.1: drawn worlds and steps.
func TestDrawnPlans(t *testing.T) {
	r := rand.New(rand.NewSource(2))
	changed, left := 0, 0
	for range 600 {
		w := drawnWorld(r, 8, 3)
		first, before, _ := wantPlan(w, 0)
		plans(t, "a drawn world", w, 0, first, before, api.OK)
		steps := []int{1, 5, 30, 300, 100000}[r.Intn(5)]
		want, cost, e := wantPlan(w, steps)
		plans(t, "a drawn world", w, steps, want, cost, e)
		if !samePlan(first, want) {
			changed++
		}
		if len(want.Unserved) > 0 && len(want.Routes) > 0 {
			left++
		}
		if cost, e := plan.Check(w, want); e != api.OK || len(want.Unserved) > len(first.Unserved) || cost > before && len(want.Unserved) == len(first.Unserved) {
			t.Errorf("%+v: %v, %d, where %v was built", w, want, e, first)
		}
	}
	if changed < 50 || left < 50 {
		t.Errorf("only %d plans changed, only %d leave some", changed, left)
	}
}

// P13.2, P13.3: drawn worlds, players, steps and wholes; none costs nothing, and who has no orders adds nothing.
func TestDrawnCosts(t *testing.T) {
	r := rand.New(rand.NewSource(3))
	seen, many, adds := map[api.Errno]int{}, 0, 0
	for range 700 {
		w := drawnWorld(r, 7, 3)
		players := playersOf(r, w)
		steps, whole := r.Intn(400)-15, r.Int63n(1000)-40
		if r.Intn(20) == 0 {
			w.Area.Dist[0] = 1
		}
		want, e := wantCosts(w, players, steps, whole)
		seen[e]++
		costs(t, "a drawn world", w, players, steps, whole, want, e)
		if e != api.OK {
			continue
		}
		if want[0] != 0 {
			t.Errorf("none costs %d", want[0])
		}
		if len(players) > 3 {
			many++
		}
		for at, owner := range players {
			for coalition := range len(want) - 1 {
				if with := coalition | 1<<at; !slices.Contains(wantPlayers(w), owner) && with < len(want)-1 && with != coalition {
					adds++
					if want[with] != want[coalition] {
						t.Errorf("%d, who has no orders, adds %d", owner, want[with]-want[coalition])
					}
				}
			}
		}
	}
	if seen[api.OK] < 400 || seen[api.ErrArg] < 50 || many < 50 || adds < 200 {
		t.Errorf("only %v, %d of many players, %d with one who has no orders", seen, many, adds)
	}
}

// P13.3: the parts of a coalition and of all others have all orders of the players, once, each in the world's order.
func TestBothParts(t *testing.T) {
	r := rand.New(rand.NewSource(4))
	both := 0
	for range 300 {
		w := drawnWorld(r, 12, 6)
		players := slices.Compact(playersOf(r, w))
		players = players[:min(len(players), 6)]
		n := coalitions(players)
		whole, e := table.Part(w, players, n-1)
		if e != api.OK {
			t.Fatalf("%v: %d", players, e)
		}
		for coalition := range n {
			a, e := table.Part(w, players, coalition)
			b, f := table.Part(w, players, n-1-coalition)
			if e != api.OK || f != api.OK {
				t.Fatalf("%v, %d: %d, %d", players, coalition, e, f)
			}
			if len(a.Orders) > 0 && len(b.Orders) > 0 {
				both++
			}
			l := append(idsOf(a), idsOf(b)...)
			at := func(id int) int { return slices.Index(idsOf(w), id) }
			if !slices.IsSortedFunc(idsOf(a), func(x, y int) int { return at(x) - at(y) }) {
				t.Errorf("%v, %d: %v, of %v", players, coalition, idsOf(a), idsOf(w))
			}
			if slices.Sort(l); !slices.Equal(l, slices.Sorted(slices.Values(idsOf(whole)))) {
				t.Errorf("%v, %d: %v and %v, of %v", players, coalition, idsOf(a), idsOf(b), idsOf(whole))
			}
		}
		for _, o := range w.Orders {
			if slices.Contains(players, o.Owner) != slices.Contains(idsOf(whole), o.Id) {
				t.Errorf("%v: %v of %v", players, whole.Orders, w.Orders)
			}
		}
	}
	if both < 500 {
		t.Errorf("only %d have some on both sides", both)
	}
}

// P13.1, P13.2: an answer hangs on nothing but what is given: what is changed between two calls counts in the second one, and not in the first one's answer.
func TestNothingIsKept(t *testing.T) {
	w, players := plain(), []int{4, 6, 9}
	l := table.Players(w)
	part, _ := table.Part(w, players, 5)
	p, _, _ := table.Plan(w, 0)
	first, _ := table.Costs(w, players, 3, 7)
	w.Orders[1].Owner, w.Orders[2].Id, w.Orders[2].Node = 5, 14, 3
	w.Trucks[0].Fixed = 0
	players[2] = 8
	if !slices.Equal(l, []int{4, 6, 9}) || !reflect.DeepEqual(part.Orders, []api.Order{order(13, 9, 3), order(11, 4, 1)}) {
		t.Errorf("answers were changed by what was given: %v, %v", l, part.Orders)
	}
	if !samePlan(p, api.Plan{Routes: []api.Route{{Truck: 2, Stops: []int{11}}}, Unserved: []int{12, 13}}) || !slices.Equal(first, []int64{0, 120, 120, 140, 200, 260, 260, 7}) {
		t.Errorf("answers were changed by what was given: %v, %v", p, first)
	}
	owners(t, "what is changed", w, []int{4, 5, 6})
	parts(t, "what is changed", w, players, 5, []int{14}, api.OK)
	// 12 alone there and back: 20; 14: 100; both, joined by no way, by a step: 50 and 100 and 10.
	costs(t, "what is changed", w, players, 3, 7, []int64{0, 100, 20, 160, 0, 100, 20, 7}, api.OK)
}
