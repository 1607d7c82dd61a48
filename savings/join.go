package savings

import (
	"slices"

	"groupage/api"
	"groupage/route"
)

// joint is the places of two rows, and the row that they are together.
type joint struct {
	a, b int
	row  []int
}

// alone tells a row of each order that some truck can run alone, by rising Ids.
func alone(w api.World) [][]int {
	var rows [][]int
	for _, o := range w.Orders {
		row := []int{o.Id}
		if cheapest(w, trucks(w), row) != nowhere {
			rows = append(rows, row)
		}
	}
	slices.SortFunc(rows, slices.Compare)
	return rows
}

// joinAll joins rows, of rising first Ids, till there are no two more to join.
func joinAll(w api.World, rows [][]int) [][]int {
	for {
		j, found := best(w, rows)
		if !found {
			return rows
		}
		// It begins as its a did: rows still rise.
		rows[j.a] = j.row
		rows = slices.Delete(rows, j.b, j.b+1)
	}
}

// best tells the two of rows, of rising first Ids, that are joined next, if there are any.
func best(w api.World, rows [][]int) (joint, bool) {
	var found joint
	var most int64
	for a := range rows {
	second:
		for b := range rows {
			if a == b {
				continue
			}
			saved, e := Saved(w, rows[a], rows[b])
			// Of as much that is saved the first ones stay: they have the least first Ids.
			if e != api.OK || saved <= most {
				continue
			}
			row := slices.Concat(rows[a], rows[b])
			for _, t := range w.Trucks {
				if _, e := route.Run(w, api.Route{Truck: t.Id, Stops: row}); e == api.OK {
					found, most = joint{a, b, row}, saved
					continue second
				}
			}
		}
	}
	return found, most > 0
}
