package tree

import (
	"cmp"
	"slices"

	"pergola/api"
)

// Faults is the union of lists of faults, each fault once, in the order of DOC.md.
func Faults(lists ...[]api.Fault) []api.Fault {
	all := slices.Concat(lists...)
	slices.SortFunc(all, orderFaults)
	all = slices.CompactFunc(all, func(a, b api.Fault) bool {
		return orderFaults(a, b) == 0
	})
	for i, f := range all {
		all[i].Pos = append([]api.Pos(nil), f.Pos...)
		all[i].Path = each(f.Path, plain)
	}
	return all
}

func orderFaults(a, b api.Fault) int {
	if c := cmp.Compare(a.Kind, b.Kind); c != 0 {
		return c
	}
	if c := slices.CompareFunc(a.Pos, b.Pos, orderPlaces); c != 0 {
		return c
	}
	return Compare(a.Path, b.Path)
}

func orderPlaces(a, b api.Pos) int {
	return cmp.Or(cmp.Compare(a.Line, b.Line), cmp.Compare(a.Col, b.Col))
}
