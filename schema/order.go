package schema

import (
	"slices"

	"querylab/api"
)

// Order is P3.2.
func Order(s api.Schema) ([]int, api.Errno) {
	waiting, ok := references(s)
	if !ok {
		return nil, api.ErrMissing
	}
	var order []int
	for len(waiting) > 0 {
		next, ok := ready(len(s.Tables), waiting)
		if !ok {
			return nil, api.ErrCycle
		}
		delete(waiting, next)
		order = append(order, next)
	}
	return order, api.OK
}

// references returns, for each table, the tables that its foreign keys name, and whether all of them exist.
func references(s api.Schema) (map[int][]int, bool) {
	all := map[int][]int{}
	for i, t := range s.Tables {
		all[i] = nil
		for k := range t.Foreigns {
			target, ok := Target(s, i, k)
			if !ok {
				return nil, false
			}
			all[i] = append(all[i], target)
		}
	}
	return all, true
}

// ready returns the least of so many tables that is waiting, but for no table that is waiting itself.
func ready(tables int, waiting map[int][]int) (int, bool) {
	waits := func(i int) bool {
		_, ok := waiting[i]
		return ok
	}
	for i := range tables {
		if waits(i) && !slices.ContainsFunc(waiting[i], waits) {
			return i, true
		}
	}
	return 0, false
}
