package better

import (
	"iter"
	"slices"

	"groupage/api"
	"groupage/plan"
)

// tries goes through what comes of each move of a plan, kind by kind.
func tries(w api.World, p api.Plan) iter.Seq[api.Plan] {
	return func(yield func(api.Plan) bool) {
		for _, kind := range []iter.Seq[[]api.Route]{inserts(p), opens(w, p), moves(p), turns(p), swaps(p)} {
			for routes := range kind {
				if !yield(planOf(w, routes)) {
					return
				}
			}
		}
	}
}

// planOf tells a plan of those routes that have stops, which shares nothing with them.
func planOf(w api.World, routes []api.Route) api.Plan {
	var p api.Plan
	for _, r := range routes {
		if len(r.Stops) > 0 {
			p.Routes = append(p.Routes, r)
		}
	}
	p.Unserved = plan.Rest(w, p)
	return plan.Copy(p)
}

// inserts goes through the routes where an unserved order is put into one of them.
func inserts(p api.Plan) iter.Seq[[]api.Route] {
	return func(yield func([]api.Route) bool) {
		for _, id := range p.Unserved {
			for routes := range puts(p.Routes, id) {
				if !yield(routes) {
					return
				}
			}
		}
	}
}

// opens goes through those where an unserved order is alone on a truck that had no route.
func opens(w api.World, p api.Plan) iter.Seq[[]api.Route] {
	return func(yield func([]api.Route) bool) {
		for _, id := range p.Unserved {
			for _, t := range w.Trucks {
				if runs(p, t.Id) {
					continue
				}
				opened := api.Route{Truck: t.Id, Stops: []int{id}}
				if !yield(append(slices.Clone(p.Routes), opened)) {
					return
				}
			}
		}
	}
}

// moves goes through those where a stop is at another place, or at its own one again.
func moves(p api.Plan) iter.Seq[[]api.Route] {
	return func(yield func([]api.Route) bool) {
		for from, r := range p.Routes {
			for at, id := range r.Stops {
				// A route whose only stop is out still stands: the stop may be put back.
				left := slices.Delete(slices.Clone(r.Stops), at, at+1)
				for routes := range puts(changed(p.Routes, from, left), id) {
					if !yield(routes) {
						return
					}
				}
			}
		}
	}
}

// turns goes through those where some stops of a route are the other way round.
func turns(p api.Plan) iter.Seq[[]api.Route] {
	return func(yield func([]api.Route) bool) {
		for at, r := range p.Routes {
			for i := range r.Stops {
				for j := i + 1; j < len(r.Stops); j++ {
					stops := slices.Clone(r.Stops)
					slices.Reverse(stops[i : j+1])
					if !yield(changed(p.Routes, at, stops)) {
						return
					}
				}
			}
		}
	}
}

// swaps goes through those where two routes have one another's last stops.
func swaps(p api.Plan) iter.Seq[[]api.Route] {
	return func(yield func([]api.Route) bool) {
		for a := range p.Routes {
			for b := a + 1; b < len(p.Routes); b++ {
				for routes := range swapsOf(p.Routes, a, b) {
					if !yield(routes) {
						return
					}
				}
			}
		}
	}
}

// swapsOf goes through the swaps of the routes at two places.
func swapsOf(routes []api.Route, a, b int) iter.Seq[[]api.Route] {
	return func(yield func([]api.Route) bool) {
		one, other := routes[a].Stops, routes[b].Stops
		for i := range len(one) + 1 {
			for j := range len(other) + 1 {
				half := changed(routes, a, slices.Concat(one[:i], other[j:]))
				if !yield(changed(half, b, slices.Concat(other[:j], one[i:]))) {
					return
				}
			}
		}
	}
}

// puts goes through the routes where an order is put at each place of each of them.
func puts(routes []api.Route, id int) iter.Seq[[]api.Route] {
	return func(yield func([]api.Route) bool) {
		for at, r := range routes {
			for place := range len(r.Stops) + 1 {
				stops := slices.Insert(slices.Clone(r.Stops), place, id)
				if !yield(changed(routes, at, stops)) {
					return
				}
			}
		}
	}
}

// changed tells routes of which the one at a place has other stops.
func changed(routes []api.Route, at int, stops []int) []api.Route {
	l := slices.Clone(routes)
	l[at].Stops = stops
	return l
}

// runs tells whether a truck has a route.
func runs(p api.Plan, truck int) bool {
	return slices.ContainsFunc(p.Routes, func(r api.Route) bool { return r.Truck == truck })
}
