package shape

import (
	"cmp"
	"slices"

	"pergola/api"
	"pergola/tree"
)

// rule looks for faults of one kind and tells those that it finds.
type rule func(tell teller)

// teller takes faults in any order and as often as they are told.
type teller func(kind api.Errno, places ...api.Pos)

// faults is the list of all that rules tell.
func faults(rules []rule) []api.Fault {
	var told []api.Fault
	for _, look := range rules {
		look(func(kind api.Errno, places ...api.Pos) {
			told = append(told, api.Fault{Kind: kind, Pos: places})
		})
	}
	return tree.Faults(told)
}

// each tells one fault for each place.
func (tell teller) each(kind api.Errno, places []api.Pos) {
	for _, place := range places {
		tell(kind, place)
	}
}

// twice tells one fault for each name that several bear.
func (tell teller) twice(kind api.Errno, names []api.Named) {
	for _, b := range byName(names) {
		if len(b.places) > 1 {
			tell(kind, b.places...)
		}
	}
}

// bearers are all that bear one name in a list: their places, in the order of the source.
type bearers struct {
	name   string
	places []api.Pos
}

func byName(names []api.Named) []bearers {
	table := tree.NewOrdered[string, []api.Pos]()
	for _, n := range names {
		places, _ := table.Get(n.Name)
		table.Put(n.Name, append(places, n.Pos))
	}
	var all []bearers
	for name, places := range table.All() {
		// An extension may stand ahead of the definition behind whose parts its own are told.
		slices.SortFunc(places, orderPlaces)
		all = append(all, bearers{name, places})
	}
	return all
}

func orderPlaces(a, b api.Pos) int {
	return cmp.Or(cmp.Compare(a.Line, b.Line), cmp.Compare(a.Col, b.Col))
}

// namesOf are the names of things, at the things' places.
func namesOf[T any](things []T, name func(T) api.Named) []api.Named {
	names := make([]api.Named, len(things))
	for i, thing := range things {
		names[i] = name(thing)
	}
	return names
}

func ofDef(d api.SysDef) api.Named     { return api.Named{Name: d.Name, Pos: d.Pos} }
func ofField(d api.FieldDef) api.Named { return api.Named{Name: d.Name, Pos: d.Pos} }
func ofInput(d api.InputDef) api.Named { return api.Named{Name: d.Name, Pos: d.Pos} }
func ofValue(d api.ValueDef) api.Named { return api.Named{Name: d.Name, Pos: d.Pos} }
func ofArg(a api.Arg) api.Named        { return api.Named{Name: a.Name, Pos: a.Pos} }
