package load_test

import (
	"fmt"
	"math"
	"math/big"
	"math/rand"
	"reflect"
	"slices"
	"testing"

	"groupage/api"
	"groupage/load"
)

const top int64 = api.MostNumber

// plainOrder is an order that may be in an area of 3 nodes or more, with no number at an edge.
func plainOrder(id int) api.Order {
	return api.Order{Id: id, Owner: 5, Node: 2, Weight: 40, Volume: 50, From: 30, To: 90, Service: 70}
}

// plainTruck is a truck that may be, with no number at an edge.
func plainTruck(id int) api.Truck {
	return api.Truck{Id: id, Weight: 100, Volume: 200, Start: 10, End: 500, Fixed: 80, Rate: 7}
}

func plainOrders(n int) []api.Order {
	var l []api.Order
	for i := range n {
		l = append(l, plainOrder(i+1))
	}
	return l
}

func plainTrucks(n int) []api.Truck {
	var l []api.Truck
	for i := range n {
		l = append(l, plainTruck(i+1))
	}
	return l
}

// sized is orders by weight and volume, by turns.
func sized(numbers ...int64) []api.Order {
	var l []api.Order
	for pair := range slices.Chunk(numbers, 2) {
		l = append(l, api.Order{Weight: pair[0], Volume: pair[1]})
	}
	return l
}

// orderNumbers are places of an order's numbers, by their names.
func orderNumbers(o *api.Order) map[string]any {
	return map[string]any{
		"Id": &o.Id, "Owner": &o.Owner, "Node": &o.Node, "Weight": &o.Weight, "Volume": &o.Volume,
		"From": &o.From, "To": &o.To, "Service": &o.Service,
	}
}

// truckNumbers are places of a truck's numbers, by their names.
func truckNumbers(x *api.Truck) map[string]any {
	return map[string]any{
		"Id": &x.Id, "Weight": &x.Weight, "Volume": &x.Volume,
		"Start": &x.Start, "End": &x.End, "Fixed": &x.Fixed, "Rate": &x.Rate,
	}
}

func put(place any, n int64) {
	switch p := place.(type) {
	case *int:
		*p = int(n)
	case *int64:
		*p = n
	}
}

// wantOrder holds an order against the chapter's Words.
func wantOrder(o api.Order, nodes int) api.Errno {
	may := 1 <= o.Id && o.Id <= 1000000 &&
		0 <= o.Owner && o.Owner <= 31 &&
		1 <= o.Node && o.Node < nodes &&
		1 <= o.Weight && o.Weight <= 1000000 &&
		1 <= o.Volume && o.Volume <= 1000000 &&
		0 <= o.From && o.From <= o.To && o.To <= 1000000 &&
		0 <= o.Service && o.Service <= 10000
	if !may {
		return api.ErrArg
	}
	return api.OK
}

// wantTruck holds a truck against the chapter's Words.
func wantTruck(x api.Truck) api.Errno {
	may := 1 <= x.Id && x.Id <= 1000000 &&
		1 <= x.Weight && x.Weight <= 1000000 &&
		1 <= x.Volume && x.Volume <= 1000000 &&
		0 <= x.Start && x.Start <= x.End && x.End <= 1000000 &&
		0 <= x.Fixed && x.Fixed <= 1000000 &&
		0 <= x.Rate && x.Rate <= 1000
	if !may {
		return api.ErrArg
	}
	return api.OK
}

// wantWorld goes through P7.1's errors in their order.
func wantWorld(w api.World) api.Errno {
	if len(w.Orders) > 12 || len(w.Trucks) > 6 {
		return api.ErrFull
	}
	orders, trucks := map[int]int{}, map[int]int{}
	wrong := false
	for _, o := range w.Orders {
		wrong = wrong || wantOrder(o, w.Area.N) != api.OK
		orders[o.Id]++
	}
	for _, x := range w.Trucks {
		wrong = wrong || wantTruck(x) != api.OK
		trucks[x.Id]++
	}
	if wrong {
		return api.ErrArg
	}
	if len(orders) < len(w.Orders) || len(trucks) < len(w.Trucks) {
		return api.ErrTwice
	}
	return api.OK
}

// wantTotal is money.Sum of numbers, worked out without limits.
func wantTotal(l []int64) (int64, api.Errno) {
	most := big.NewInt(1<<62 - 1)
	for _, n := range l {
		if big.NewInt(n).CmpAbs(most) > 0 {
			return 0, api.ErrArg
		}
	}
	sum := new(big.Int)
	for _, n := range l {
		if sum.Add(sum, big.NewInt(n)).CmpAbs(most) > 0 {
			return 0, api.ErrFull
		}
	}
	return sum.Int64(), api.OK
}

// wantSum is P7.2's Sum: of two errors that of the weights.
func wantSum(l []api.Order) (int64, int64, api.Errno) {
	var weights, volumes []int64
	for _, o := range l {
		weights, volumes = append(weights, o.Weight), append(volumes, o.Volume)
	}
	w, e := wantTotal(weights)
	v, f := wantTotal(volumes)
	if e == api.OK {
		e = f
	}
	if e != api.OK {
		return 0, 0, e
	}
	return w, v, api.OK
}

func wantCarries(x api.Truck, l []api.Order) api.Errno {
	w, v, e := wantSum(l)
	if e == api.OK && (w > x.Weight || v > x.Volume) {
		return api.ErrLoad
	}
	return e
}

// wantFind goes through the list from its end.
func wantFind(l []api.Order, id int) int {
	found := -1
	for at := len(l) - 1; at >= 0; at-- {
		if l[at].Id == id {
			found = at
		}
	}
	return found
}

func order(t *testing.T, o api.Order, nodes int, want api.Errno) {
	t.Helper()
	if e := load.Order(o, nodes); e != want {
		t.Errorf("Order(%+v, %d): %d; asked %d", o, nodes, e, want)
	}
}

func truck(t *testing.T, x api.Truck, want api.Errno) {
	t.Helper()
	if e := load.Truck(x); e != want {
		t.Errorf("Truck(%+v): %d; asked %d", x, e, want)
	}
}

func copied(w api.World) api.World {
	w.Area.Dist, w.Area.Time = slices.Clone(w.Area.Dist), slices.Clone(w.Area.Time)
	w.Orders, w.Trucks = slices.Clone(w.Orders), slices.Clone(w.Trucks)
	return w
}

func world(t *testing.T, what string, w api.World, want api.Errno) {
	t.Helper()
	kept := copied(w)
	if e := load.World(w); e != want {
		t.Errorf("World of %s: %d; asked %d", what, e, want)
	}
	if !reflect.DeepEqual(w, kept) {
		t.Errorf("World of %s changed it", what)
	}
}

func sum(t *testing.T, l []api.Order, weight, volume int64, want api.Errno) {
	t.Helper()
	kept := slices.Clone(l)
	if w, v, e := load.Sum(l); w != weight || v != volume || e != want {
		t.Errorf("Sum(%v): %d, %d, %d; asked %d, %d, %d", l, w, v, e, weight, volume, want)
	}
	if !slices.Equal(l, kept) {
		t.Errorf("Sum(%v) changed it to %v", kept, l)
	}
}

func carries(t *testing.T, x api.Truck, l []api.Order, want api.Errno) {
	t.Helper()
	kept := slices.Clone(l)
	if e := load.Carries(x, l); e != want {
		t.Errorf("Carries(%+v, %v): %d; asked %d", x, l, e, want)
	}
	if !slices.Equal(l, kept) {
		t.Errorf("Carries(%+v, %v) changed it to %v", x, kept, l)
	}
}

func find(t *testing.T, l []api.Order, id, want int) {
	t.Helper()
	kept := slices.Clone(l)
	if at := load.Find(l, id); at != want {
		t.Errorf("Find(%v, %d): %d; asked %d", l, id, at, want)
	}
	if !slices.Equal(l, kept) {
		t.Errorf("Find(%v, %d) changed it to %v", kept, id, l)
	}
}

// ends are numbers that no order and no truck may have.
func ends() []int64 {
	return []int64{math.MinInt64, math.MinInt64 + 1, -1 << 32, -1000000, -2, -1, 1 << 32, 1<<32 + 1, 1<<62 - 1, math.MaxInt64 - 1, math.MaxInt64}
}

// P7.1: each of an order's numbers, at its limits and beside them, while the others are plain.
func TestOrderNumbers(t *testing.T) {
	for name, c := range map[string]struct{ may, mayNot []int64 }{
		"Id":      {[]int64{1, 2, 999999, 1000000}, []int64{0, 1000001}},
		"Owner":   {[]int64{0, 1, 30, 31}, []int64{32, 33}},
		"Node":    {[]int64{1, 2}, []int64{0, 3, 4, 16}},
		"Weight":  {[]int64{1, 2, 999999, 1000000}, []int64{0, 1000001}},
		"Volume":  {[]int64{1, 2, 999999, 1000000}, []int64{0, 1000001}},
		"From":    {[]int64{0, 1, 89, 90}, []int64{91, 1000000, 1000001}},
		"To":      {[]int64{30, 31, 999999, 1000000}, []int64{0, 29, 1000001}},
		"Service": {[]int64{0, 1, 9999, 10000}, []int64{10001, 1000000}},
	} {
		for _, n := range c.may {
			o := plainOrder(7)
			put(orderNumbers(&o)[name], n)
			order(t, o, 3, api.OK)
			world(t, fmt.Sprint("an order whose ", name, " is ", n), api.World{Area: api.Area{N: 3}, Orders: []api.Order{o}}, api.OK)
		}
		for _, n := range append(c.mayNot, ends()...) {
			o := plainOrder(7)
			put(orderNumbers(&o)[name], n)
			order(t, o, 3, api.ErrArg)
			world(t, fmt.Sprint("an order whose ", name, " is ", n), api.World{Area: api.Area{N: 3}, Orders: []api.Order{o}}, api.ErrArg)
		}
	}
}

// P7.1: each of a truck's numbers, at its limits and beside them, while the others are plain.
func TestTruckNumbers(t *testing.T) {
	for name, c := range map[string]struct{ may, mayNot []int64 }{
		"Id":     {[]int64{1, 2, 999999, 1000000}, []int64{0, 1000001}},
		"Weight": {[]int64{1, 2, 999999, 1000000}, []int64{0, 1000001}},
		"Volume": {[]int64{1, 2, 999999, 1000000}, []int64{0, 1000001}},
		"Start":  {[]int64{0, 1, 499, 500}, []int64{501, 1000000, 1000001}},
		"End":    {[]int64{10, 11, 999999, 1000000}, []int64{0, 9, 1000001}},
		"Fixed":  {[]int64{0, 1, 999999, 1000000}, []int64{1000001}},
		"Rate":   {[]int64{0, 1, 999, 1000}, []int64{1001, 1000000}},
	} {
		for _, n := range c.may {
			x := plainTruck(7)
			put(truckNumbers(&x)[name], n)
			truck(t, x, api.OK)
			world(t, fmt.Sprint("a truck whose ", name, " is ", n), api.World{Area: api.Area{N: 3}, Trucks: []api.Truck{x}}, api.OK)
		}
		for _, n := range append(c.mayNot, ends()...) {
			x := plainTruck(7)
			put(truckNumbers(&x)[name], n)
			truck(t, x, api.ErrArg)
			world(t, fmt.Sprint("a truck whose ", name, " is ", n), api.World{Area: api.Area{N: 3}, Trucks: []api.Truck{x}}, api.ErrArg)
		}
	}
}

// P7.1: orders and trucks of the least numbers, of the greatest, and of none.
func TestLeastAndGreatest(t *testing.T) {
	order(t, api.Order{Id: 1, Owner: 0, Node: 1, Weight: 1, Volume: 1}, 2, api.OK)
	order(t, api.Order{Id: 1000000, Owner: 31, Node: 15, Weight: 1000000, Volume: 1000000, From: 1000000, To: 1000000, Service: 10000}, 16, api.OK)
	order(t, api.Order{}, 2, api.ErrArg)
	truck(t, api.Truck{Id: 1, Weight: 1, Volume: 1}, api.OK)
	truck(t, api.Truck{Id: 1000000, Weight: 1000000, Volume: 1000000, Start: 1000000, End: 1000000, Fixed: 1000000, Rate: 1000}, api.OK)
	truck(t, api.Truck{}, api.ErrArg)
}

// P7.1: a Node is from 1 to n - 1, in areas of every number of nodes, also such as may not be.
func TestNodes(t *testing.T) {
	for n := -3; n <= 40; n++ {
		for node := -3; node <= 45; node++ {
			want := api.ErrArg
			if node >= 1 && node <= n-1 {
				want = api.OK
			}
			o := plainOrder(7)
			o.Node = node
			order(t, o, n, want)
			world(t, fmt.Sprint(n, " nodes, and an order at ", node), api.World{Area: api.Area{N: n}, Orders: []api.Order{o}}, want)
		}
	}
	for _, node := range []int{math.MinInt, -1, 0, 1, 2, math.MaxInt - 1, math.MaxInt} {
		o := plainOrder(7)
		o.Node = node
		for _, n := range []int{math.MinInt, math.MinInt + 1, -1 << 32, -2, -1, 0, 1} {
			order(t, o, n, api.ErrArg)
			world(t, fmt.Sprint(n, " nodes, and an order at ", node), api.World{Area: api.Area{N: n}, Orders: []api.Order{o}}, api.ErrArg)
		}
		want := api.OK
		if node < 1 || node == math.MaxInt {
			want = api.ErrArg
		}
		order(t, o, math.MaxInt, want)
	}
}

// P7.1: From and To, Start and End, of all pairs of numbers beside their limits.
func TestTimes(t *testing.T) {
	numbers := append(ends(), 0, 1, 2, 3, 500000, 999999, 1000000, 1000001, 1000002)
	for _, from := range numbers {
		for _, to := range numbers {
			want := api.ErrArg
			if from >= 0 && to >= from && to <= 1000000 {
				want = api.OK
			}
			o, x := plainOrder(7), plainTruck(7)
			o.From, o.To = from, to
			x.Start, x.End = from, to
			order(t, o, 3, want)
			truck(t, x, want)
		}
	}
}

// P7.1: drawn orders and trucks, some with several numbers at or beside a limit.
func TestDrawnNumbers(t *testing.T) {
	r := rand.New(rand.NewSource(1))
	edges := append(ends(), 0, 1, 2, 3, 30, 31, 32, 33, 90, 999, 1000, 1001, 9999, 10000, 10001, 999999, 1000000, 1000001)
	for range 50000 {
		o, x := plainOrder(7), plainTruck(7)
		for _, places := range []map[string]any{orderNumbers(&o), truckNumbers(&x)} {
			for _, name := range []string{"Id", "Owner", "Node", "Weight", "Volume", "From", "To", "Service", "Start", "End", "Fixed", "Rate"} {
				if r.Intn(6) == 0 {
					put(places[name], edges[r.Intn(len(edges))])
				}
			}
		}
		nodes := r.Intn(6)
		order(t, o, nodes, wantOrder(o, nodes))
		truck(t, x, wantTruck(x))
	}
}

// P7.1: worlds of no orders, or no trucks, and of every number of them up to some more than may be.
func TestWorldOfHowMany(t *testing.T) {
	world(t, "nothing", api.World{}, api.OK)
	world(t, "empty lists", api.World{Orders: []api.Order{}, Trucks: []api.Truck{}}, api.OK)
	for orders := range 16 {
		for trucks := range 10 {
			want := api.OK
			if orders > 12 || trucks > 6 {
				want = api.ErrFull
			}
			world(t, fmt.Sprint(orders, " orders, ", trucks, " trucks"), api.World{Area: api.Area{N: 3}, Orders: plainOrders(orders), Trucks: plainTrucks(trucks)}, want)
		}
	}
	world(t, "100000 orders", api.World{Area: api.Area{N: 3}, Orders: plainOrders(100000)}, api.ErrFull)
	world(t, "100000 trucks", api.World{Area: api.Area{N: 3}, Trucks: plainTrucks(100000)}, api.ErrFull)
}

// P7.1: one order, or one truck, that may not be, wherever it stands.
func TestWorldOfOneThatMayNotBe(t *testing.T) {
	for n := 1; n <= 12; n++ {
		for at := range n {
			w := api.World{Area: api.Area{N: 3}, Orders: plainOrders(n), Trucks: plainTrucks(6)}
			w.Orders[at].Volume = 0
			world(t, fmt.Sprint(n, " orders, at ", at, " one that may not be"), w, api.ErrArg)
			w.Orders[at].Volume, w.Orders[at].Node = 1, 3
			world(t, fmt.Sprint(n, " orders, at ", at, " one at no node"), w, api.ErrArg)
		}
	}
	for n := 1; n <= 6; n++ {
		for at := range n {
			w := api.World{Area: api.Area{N: 3}, Orders: plainOrders(12), Trucks: plainTrucks(n)}
			w.Trucks[at].Rate = 1001
			world(t, fmt.Sprint(n, " trucks, at ", at, " one that may not be"), w, api.ErrArg)
		}
	}
}

// P7.1: two of one Id, wherever they stand; an order and a truck of one Id may be.
func TestWorldOfOneId(t *testing.T) {
	for first := range 12 {
		for second := range first {
			w := api.World{Area: api.Area{N: 3}, Orders: plainOrders(12), Trucks: plainTrucks(6)}
			w.Orders[first] = plainOrder(w.Orders[second].Id)
			world(t, fmt.Sprint("the same order at ", first, " and ", second), w, api.ErrTwice)
			w.Orders[first].Owner, w.Orders[first].Weight = 9, 9
			world(t, fmt.Sprint("orders of one Id at ", first, " and ", second), w, api.ErrTwice)
			w.Orders[first].Id = 1000000
			world(t, "orders of unlike Ids", w, api.OK)
		}
	}
	for first := range 6 {
		for second := range first {
			w := api.World{Area: api.Area{N: 3}, Orders: plainOrders(12), Trucks: plainTrucks(6)}
			w.Trucks[first] = plainTruck(w.Trucks[second].Id)
			world(t, fmt.Sprint("the same truck at ", first, " and ", second), w, api.ErrTwice)
			w.Trucks[first].Start, w.Trucks[first].Fixed = 9, 9
			world(t, fmt.Sprint("trucks of one Id at ", first, " and ", second), w, api.ErrTwice)
			w.Trucks[first].Id = 1000000
			world(t, "trucks of unlike Ids", w, api.OK)
		}
	}
	world(t, "an order and a truck of one Id", api.World{Area: api.Area{N: 3}, Orders: []api.Order{plainOrder(5)}, Trucks: []api.Truck{plainTruck(5)}}, api.OK)
	alike := api.World{Area: api.Area{N: 3}, Orders: plainOrders(2), Trucks: plainTrucks(2)}
	alike.Orders[1] = alike.Orders[0]
	alike.Orders[1].Id = 2
	world(t, "orders that are alike but for their Ids", alike, api.OK)
}

// P7.1: of several errors the one named first: ErrFull, then ErrArg, then ErrTwice, whether of orders or of trucks.
func TestWorldFirstError(t *testing.T) {
	twoOrders, twoTrucks := []api.Order{plainOrder(1), plainOrder(1)}, []api.Truck{plainTruck(1), plainTruck(1)}
	badOrders, badTrucks := []api.Order{{}, {}}, []api.Truck{{}, {}}
	fullOrders, fullTrucks := slices.Repeat(badOrders, 7), slices.Repeat(badTrucks, 4)
	for at, c := range []struct {
		orders []api.Order
		trucks []api.Truck
		e      api.Errno
	}{
		{twoOrders, twoTrucks, api.ErrTwice}, {twoOrders, plainTrucks(6), api.ErrTwice}, {plainOrders(12), twoTrucks, api.ErrTwice},
		{badOrders, twoTrucks, api.ErrArg}, {twoOrders, badTrucks, api.ErrArg}, {badOrders, badTrucks, api.ErrArg},
		{badOrders, nil, api.ErrArg}, {nil, badTrucks, api.ErrArg},
		{append(slices.Clone(twoOrders), api.Order{}), nil, api.ErrArg}, {nil, append(slices.Clone(twoTrucks), api.Truck{}), api.ErrArg},
		{fullOrders, nil, api.ErrFull}, {nil, fullTrucks, api.ErrFull}, {fullOrders, fullTrucks, api.ErrFull},
		{badOrders, fullTrucks, api.ErrFull}, {fullOrders, badTrucks, api.ErrFull},
		{twoOrders, fullTrucks, api.ErrFull}, {fullOrders, twoTrucks, api.ErrFull},
		{slices.Repeat(twoOrders, 7), nil, api.ErrFull}, {nil, slices.Repeat(twoTrucks, 4), api.ErrFull},
	} {
		world(t, fmt.Sprint("case ", at), api.World{Area: api.Area{N: 3}, Orders: c.orders, Trucks: c.trucks}, c.e)
	}
}

// P7.1: the area isn't looked at, but for how many nodes it has.
func TestWorldDoesNotLookAtTheArea(t *testing.T) {
	for _, a := range []api.Area{
		{N: 3}, {N: 3, Dist: []int64{-1}, Time: []int64{5, 5}}, {N: 17, Dist: make([]int64, 4)}, {N: math.MaxInt},
		{N: 3, Dist: []int64{1, 2, 3, 4, 5, 6, 7, 8, 9}, Time: []int64{-1, 0, 0, 0, 0, 0, 0, 0, math.MaxInt64}},
	} {
		world(t, fmt.Sprint("an area of ", a.N), api.World{Area: a, Orders: plainOrders(3), Trucks: plainTrucks(2)}, api.OK)
	}
	for _, n := range []int{math.MinInt, -3, -1, 0, 1, 2} {
		world(t, fmt.Sprint("no orders, and nodes: ", n), api.World{Area: api.Area{N: n}, Trucks: plainTrucks(2)}, api.OK)
		world(t, fmt.Sprint("orders, and nodes: ", n), api.World{Area: api.Area{N: n}, Orders: plainOrders(3)}, api.ErrArg)
	}
}

// P7.1: drawn worlds, asked twice: the same calls answer the same.
func TestDrawnWorlds(t *testing.T) {
	r := rand.New(rand.NewSource(2))
	seen := map[api.Errno]int{}
	for range 30000 {
		w := api.World{Area: api.Area{N: 2 + r.Intn(3)}, Orders: plainOrders(r.Intn(14)), Trucks: plainTrucks(r.Intn(8))}
		for at := range w.Orders {
			w.Orders[at].Id = 1 + r.Intn(1+r.Intn(1000000))
			w.Orders[at].Node = 1 + r.Intn(w.Area.N-1)
			if r.Intn(40) == 0 {
				w.Orders[at].Service = 10001
			}
		}
		for at := range w.Trucks {
			w.Trucks[at].Id = 1 + r.Intn(1+r.Intn(1000000))
			if r.Intn(40) == 0 {
				w.Trucks[at].Fixed = -1
			}
		}
		if len(w.Orders) > 1 && r.Intn(4) == 0 {
			w.Orders[r.Intn(len(w.Orders))].Id = w.Orders[0].Id
		}
		want := wantWorld(w)
		seen[want]++
		for range 2 {
			world(t, "a drawn one", w, want)
		}
	}
	for _, e := range []api.Errno{api.OK, api.ErrFull, api.ErrArg, api.ErrTwice} {
		if seen[e] < 100 {
			t.Errorf("only %d drawn worlds answer %d", seen[e], e)
		}
	}
}

// P7.2: weights and volumes together, at the limits of money, and the error of weights ahead of that of volumes.
func TestSum(t *testing.T) {
	for _, c := range []struct {
		l              []api.Order
		weight, volume int64
		e              api.Errno
	}{
		{nil, 0, 0, api.OK}, {[]api.Order{}, 0, 0, api.OK}, {sized(4, 5), 4, 5, api.OK}, {sized(4, 5, 6, 7, 80, 90), 90, 102, api.OK},
		{sized(0, 0), 0, 0, api.OK}, {sized(-4, 5, 3, -8), -1, -3, api.OK},
		{sized(top, top), top, top, api.OK}, {sized(-top, -top), -top, -top, api.OK}, {sized(top-1, 1-top, 1, -1), top, -top, api.OK},
		{sized(top, 0, -top, 0, 1, 2), 1, 2, api.OK},
		// Of weights alone.
		{sized(top+1, 1), 0, 0, api.ErrArg}, {sized(-top-1, 1), 0, 0, api.ErrArg}, {sized(math.MinInt64, 1), 0, 0, api.ErrArg},
		{sized(1, 1, 2, 2, math.MaxInt64, 3), 0, 0, api.ErrArg},
		{sized(top, 5, 1, 5), 0, 0, api.ErrFull}, {sized(-top, 5, -1, 5), 0, 0, api.ErrFull}, {sized(top, 0, 1, 0, -1, 0), 0, 0, api.ErrFull},
		{sized(top, 0, 1, 0, top+1, 0), 0, 0, api.ErrArg},
		// Of volumes alone.
		{sized(1, top+1), 0, 0, api.ErrArg}, {sized(1, -top-1), 0, 0, api.ErrArg}, {sized(1, math.MinInt64), 0, 0, api.ErrArg},
		{sized(1, 1, 2, 2, 3, math.MaxInt64), 0, 0, api.ErrArg},
		{sized(5, top, 5, 1), 0, 0, api.ErrFull}, {sized(5, -top, 5, -1), 0, 0, api.ErrFull}, {sized(0, top, 0, 1, 0, -1), 0, 0, api.ErrFull},
		{sized(0, top, 0, 1, 0, top+1), 0, 0, api.ErrArg},
		// Of both.
		{sized(top+1, top+1), 0, 0, api.ErrArg}, {sized(top, top, 1, 1), 0, 0, api.ErrFull},
		{sized(top, top+1, 1, 0), 0, 0, api.ErrFull}, {sized(top, 0, 1, top+1), 0, 0, api.ErrFull},
		{sized(top+1, top, 0, 1), 0, 0, api.ErrArg}, {sized(0, top, 0, 1, top+1, 0), 0, 0, api.ErrArg},
	} {
		sum(t, c.l, c.weight, c.volume, c.e)
		carries(t, api.Truck{Weight: math.MaxInt64, Volume: math.MaxInt64}, c.l, c.e)
		if c.e != api.OK {
			carries(t, api.Truck{}, c.l, c.e)
			carries(t, plainTruck(1), c.l, c.e)
		}
	}
}

// P7.2: the document's examples, and trucks that carry just as much, or one less.
func TestCarries(t *testing.T) {
	ten := api.Truck{Id: 1, Weight: 10, Volume: 10}
	carries(t, ten, sized(4, 5, 6, 5), api.OK)
	carries(t, ten, sized(4, 5, 7, 5), api.ErrLoad)
	carries(t, ten, sized(4, 5, 6, 6), api.ErrLoad)
	carries(t, ten, sized(4, 5, 7, 6), api.ErrLoad)
	carries(t, ten, nil, api.OK)
	carries(t, ten, []api.Order{}, api.OK)
	carries(t, api.Truck{}, nil, api.OK)
	carries(t, api.Truck{}, sized(0, 0), api.OK)
	carries(t, api.Truck{Weight: -1}, nil, api.ErrLoad)
	carries(t, api.Truck{Volume: -1}, nil, api.ErrLoad)
	for _, l := range [][]api.Order{sized(1, 1), sized(3, 8), sized(1, 2, 3, 4, 5, 6), sized(1000000, 1000000), slices.Repeat(sized(1000000, 999999), 12), sized(top-1, 7, 1, 1), sized(7, top-1, 1, 1)} {
		w, v, e := wantSum(l)
		if e != api.OK {
			t.Fatalf("Sum(%v): %d", l, e)
		}
		carries(t, api.Truck{Weight: w, Volume: v}, l, api.OK)
		carries(t, api.Truck{Weight: w + 1, Volume: v + 1}, l, api.OK)
		carries(t, api.Truck{Weight: w - 1, Volume: v}, l, api.ErrLoad)
		carries(t, api.Truck{Weight: w, Volume: v - 1}, l, api.ErrLoad)
		carries(t, api.Truck{Weight: w - 1, Volume: v - 1}, l, api.ErrLoad)
		carries(t, api.Truck{Weight: w - 1, Volume: math.MaxInt64}, l, api.ErrLoad)
		carries(t, api.Truck{Weight: math.MaxInt64, Volume: v - 1}, l, api.ErrLoad)
	}
}

// P7.2: nothing but weights and volumes counts, and no limit of a world's on how many there are.
func TestCarriesManyAndOdd(t *testing.T) {
	odd := []api.Order{{Id: -1, Owner: 99, Node: -5, Weight: 4, Volume: 5, From: 9, To: 1, Service: -7}, {Id: -1, Weight: 6, Volume: 5}}
	sum(t, odd, 10, 10, api.OK)
	carries(t, api.Truck{Id: -3, Weight: 10, Volume: 10, Start: 9, End: -9, Fixed: -1, Rate: -1}, odd, api.OK)
	carries(t, api.Truck{Id: -3, Weight: 9, Volume: 10}, odd, api.ErrLoad)
	many := slices.Repeat(sized(3, 4), 20000)
	sum(t, many, 60000, 80000, api.OK)
	carries(t, api.Truck{Weight: 60000, Volume: 80000}, many, api.OK)
	carries(t, api.Truck{Weight: 60000, Volume: 79999}, many, api.ErrLoad)
}

// P7.2: drawn lists of numbers of all sizes, asked twice: the same calls answer the same.
func TestDrawnLists(t *testing.T) {
	r := rand.New(rand.NewSource(3))
	seen := map[api.Errno]int{}
	number := func() int64 { return int64(r.Uint64()) >> min(r.Intn(10), r.Intn(64)) }
	for range 50000 {
		var l []api.Order
		for range r.Intn(6) {
			l = append(l, api.Order{Weight: number(), Volume: number()})
		}
		x := api.Truck{Weight: number(), Volume: number()}
		w, v, e := wantSum(l)
		want := wantCarries(x, l)
		seen[want]++
		for range 2 {
			sum(t, l, w, v, e)
			carries(t, x, l, want)
		}
	}
	for _, e := range []api.Errno{api.OK, api.ErrArg, api.ErrFull, api.ErrLoad} {
		if seen[e] < 100 {
			t.Errorf("only %d drawn lists answer %d", seen[e], e)
		}
	}
}

// P7.2: an Id that is there once, twice, and not at all; any number may be asked.
func TestFind(t *testing.T) {
	l := []api.Order{{Id: 3}, {Id: 5}, {Id: 3, Weight: 1}, {Id: -1}, {Id: 8}, {Id: 5}, {Id: math.MaxInt}}
	for id, want := range map[int]int{3: 0, 5: 1, -1: 3, 8: 4, math.MaxInt: 6, 0: -1, 1: -1, 4: -1, 9: -1, -3: -1, math.MinInt: -1} {
		find(t, l, id, want)
		find(t, nil, id, -1)
		find(t, []api.Order{}, id, -1)
	}
	find(t, []api.Order{{}}, 0, 0)
	find(t, []api.Order{{Id: 1}, {}}, 0, 1)
	find(t, plainOrders(20000), 20000, 19999)
	find(t, plainOrders(20000), 20001, -1)
	r := rand.New(rand.NewSource(4))
	for range 5000 {
		l := plainOrders(r.Intn(14))
		for at := range l {
			l[at].Id = r.Intn(10)
		}
		for id := range 11 {
			find(t, l, id, wantFind(l, id))
		}
	}
}

// P7.1 and P7.2: what stands behind a list, where it is a part of a longer one, is neither read nor changed.
func TestListsStayAsTheyWere(t *testing.T) {
	orders, trucks := plainOrders(12), plainTrucks(6)
	orders[3], orders[4], trucks[2], trucks[3] = plainOrder(1), api.Order{Weight: math.MinInt64}, plainTruck(1), api.Truck{}
	keptOrders, keptTrucks := slices.Clone(orders), slices.Clone(trucks)
	world(t, "parts of longer lists", api.World{Area: api.Area{N: 3}, Orders: orders[:3], Trucks: trucks[:2]}, api.OK)
	world(t, "parts with two orders of one Id", api.World{Area: api.Area{N: 3}, Orders: orders[:4], Trucks: trucks[:2]}, api.ErrTwice)
	sum(t, orders[:3], 120, 150, api.OK)
	carries(t, api.Truck{Weight: 120, Volume: 150}, orders[:3], api.OK)
	carries(t, api.Truck{Weight: 120, Volume: 150}, orders[:4], api.ErrLoad)
	sum(t, orders[:5], 0, 0, api.ErrArg)
	find(t, orders[:3], 6, -1)
	find(t, orders, 6, 5)
	if !slices.Equal(orders, keptOrders) || !slices.Equal(trucks, keptTrucks) {
		t.Errorf("behind the calls: %v, %v", orders, trucks)
	}
}

// P7.1 and P7.2: nothing is kept: what was changed is told as it is now.
func TestNothingIsKept(t *testing.T) {
	w := api.World{Area: api.Area{N: 3}, Orders: plainOrders(2), Trucks: plainTrucks(2)}
	world(t, "what may be", w, api.OK)
	w.Orders[1].Id = 1
	world(t, "an Id that was changed", w, api.ErrTwice)
	w.Trucks[1].Weight = 0
	world(t, "a truck that was changed", w, api.ErrArg)
	w.Orders[1].Id, w.Trucks[1].Weight = 2, 1
	world(t, "what may be again", w, api.OK)
	sum(t, w.Orders, 80, 100, api.OK)
	w.Orders[0].Weight = 60
	sum(t, w.Orders, 100, 100, api.OK)
	carries(t, plainTruck(1), w.Orders, api.OK)
	w.Orders[0].Weight = 61
	carries(t, plainTruck(1), w.Orders, api.ErrLoad)
}

// P7.3: what carries some orders that may be carries fewer of them, whichever are left out; and whoever carries two lists carries each.
func TestCarriesFewer(t *testing.T) {
	r := rand.New(rand.NewSource(5))
	carried := 0
	for range 5000 {
		n := r.Intn(8)
		l := plainOrders(n)
		var w, v int64
		for at := range l {
			l[at].Weight, l[at].Volume = 1+r.Int63n(1000000), 1+r.Int63n(1000000)
			w, v = w+l[at].Weight, v+l[at].Volume
		}
		x := plainTruck(1)
		x.Weight, x.Volume = w+r.Int63n(3)-1, v+r.Int63n(3)-1
		if load.Carries(x, l) != api.OK {
			continue
		}
		carried++
		for set := range 1 << n {
			var some, others []api.Order
			for at, o := range l {
				if set>>at&1 == 1 {
					some = append(some, o)
				} else {
					others = append(others, o)
				}
			}
			carries(t, x, slices.Concat(some, others), api.OK)
			carries(t, x, some, api.OK)
			carries(t, x, others, api.OK)
		}
	}
	if carried < 1000 {
		t.Errorf("only %d drawn lists are carried", carried)
	}
}

// P7.3: both together weigh what each does, so one more unit than a truck has is too much, in whichever part it is.
func TestSumOfTwoLists(t *testing.T) {
	r := rand.New(rand.NewSource(6))
	for range 5000 {
		l := plainOrders(1 + r.Intn(12))
		for at := range l {
			l[at].Weight, l[at].Volume = 1+r.Int63n(1000000), 1+r.Int63n(1000000)
		}
		cut := r.Intn(len(l) + 1)
		w1, v1, e1 := load.Sum(l[:cut])
		w2, v2, e2 := load.Sum(l[cut:])
		if e1 != api.OK || e2 != api.OK {
			t.Fatalf("parts of %v, cut at %d: %d, %d", l, cut, e1, e2)
		}
		sum(t, l, w1+w2, v1+v2, api.OK)
		carries(t, api.Truck{Weight: w1 + w2, Volume: v1 + v2}, l, api.OK)
		carries(t, api.Truck{Weight: w1 + w2 - 1, Volume: v1 + v2}, l, api.ErrLoad)
		carries(t, api.Truck{Weight: w1 + w2, Volume: v1 + v2 - 1}, l, api.ErrLoad)
	}
}
