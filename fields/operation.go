package fields

import "pergola/api"

// operation is an operation's definition, and its number in the document.
type operation struct {
	api.Def
	number int
}

func operationsOf(defs []api.Def) []operation {
	var ops []operation
	for i, def := range defs {
		if def.Kind != api.DefFragment {
			ops = append(ops, operation{def, i})
		}
	}
	return ops
}

func (o operation) At() api.Pos { return o.Pos }

func (o operation) ownName() (string, bool) { return o.Name, o.Name != "" }
