package fields

import (
	"pergola/api"
	"pergola/batch"
	"pergola/scope"
	"pergola/typesys"
)

// literalsOf are the values of all spots. Where a spot isn't typed its type is passed over.
func literalsOf(s *scope.Sheet) []batch.Literal {
	var all []batch.Literal
	for _, spot := range s.Spots() {
		made := batch.Literal{Value: spot.Value}
		if spot.Typed {
			made.Want = spot.Type
		}
		all = append(all, made)
	}
	return all
}

// neededTypes are the definitions of all types that the literals can meet: those of their own places, and those of input fields that bear a name which some literal gives to a field. So a great type system isn't copied for a small document.
func neededTypes(types *typesys.Types, all []batch.Literal) []api.SysDef {
	named := set{}
	n := needs{types: types, met: set{}}
	for _, l := range all {
		addFieldNames(named, l.Value)
		n.add(l.Want.Name)
	}
	for i := 0; i < len(n.defs); i++ { // the list grows meanwhile
		for _, input := range n.defs[i].Inputs {
			if named.has(input.Name) {
				n.add(input.Type.Name)
			}
		}
	}
	return n.defs
}

func addFieldNames(names set, v api.Lit) {
	for _, item := range v.Items {
		addFieldNames(names, item)
	}
	for _, field := range v.Fields {
		names.add(field.Name)
		addFieldNames(names, field.Value)
	}
}

// needs are types of input, each once.
type needs struct {
	types *typesys.Types
	met   set
	defs  []api.SysDef
}

func (n *needs) add(name string) {
	if n.met.has(name) || !n.types.Input(name) {
		return
	}
	n.met.add(name)
	def, _ := n.types.Type(name)
	n.defs = append(n.defs, def)
}
