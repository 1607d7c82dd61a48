package route

import (
	"groupage/api"
	"groupage/area"
)

const depot = 0

// spot is the node at which a truck is, at which time, and how far it went till then.
type spot struct {
	node       int
	time, dist int64
}

// goTo goes to a node of an area that may be.
func (s *spot) goTo(a api.Area, node int) {
	// Without an error: a world that may be has its orders at nodes of its area.
	dist, time, _ := area.Leg(a, s.node, node)
	s.node = node
	s.time += time
	s.dist += dist
}

// running is a trip while it is run: where it is, and its visits so far.
type running struct {
	spot
	visits []Visit
}

// visit goes to an order, serves it, and tells whether that began in time.
func (x *running) visit(a api.Area, o api.Order) bool {
	x.goTo(a, o.Node)
	arrive := x.time
	begin := max(arrive, o.From)
	leave := begin + o.Service
	x.time = leave
	x.visits = append(x.visits, Visit{Order: o.Id, Arrive: arrive, Begin: begin, Leave: leave})
	return begin <= o.To
}

// drive runs a truck to orders, one behind the other, and back.
func drive(a api.Area, t api.Truck, orders []api.Order) (Trip, api.Errno) {
	x := running{spot: spot{node: depot, time: t.Start}}
	for _, o := range orders {
		if !x.visit(a, o) {
			return Trip{}, api.ErrLate
		}
	}
	x.goTo(a, depot)
	if x.time > t.End {
		return Trip{}, api.ErrLate
	}
	// Far below the greatest number, at any world's limits.
	cost := t.Fixed + t.Rate*x.dist
	return Trip{Visits: x.visits, Back: x.time, Dist: x.dist, Cost: cost}, api.OK
}
