package plan

import "groupage/api"

// worth is all by which plans are compared.
type worth struct {
	unserved int
	cost     int64
}

// worthOf tells the worth of a plan, or why it may not be.
func worthOf(w api.World, p api.Plan) (worth, api.Errno) {
	cost, e := Check(w, p)
	if e != api.OK {
		return worth{}, e
	}
	return worth{unserved: len(p.Unserved), cost: cost}, api.OK
}

// noWorse tells whether a plan of worth x is better than one of y, or as good.
func (x worth) noWorse(y worth) bool {
	// However low its cost, a plan that serves fewer orders is the worse one.
	if x.unserved != y.unserved {
		return x.unserved < y.unserved
	}
	return x.cost <= y.cost
}
