// Package batch holds many literals against the types of their places at one go: layer 13's Check looks up anew every type that it meets, so that a question for each literal would go through great types again and again.
package batch

import (
	"slices"
	"strconv"

	"pergola/api"
	"pergola/lits"
	"pergola/typesys"
)

// holder is a name that no source's type can have, so that all other types are as they were.
const holder = "(all literals)"

// Literal is a value in a source, and the type of its place.
type Literal struct {
	Value api.Lit
	Want  api.TypeRef
}

// Faults is the list of all faults of the literals, in the type system that the definitions make. The literals are the fields of one object at an input type that is made for it.
func Faults(defs []api.SysDef, all []Literal) []api.Fault {
	made := api.SysDef{Kind: api.SysInput, Name: holder}
	object := api.Lit{Kind: api.LitObject}
	for i, l := range all {
		name := strconv.Itoa(i)
		made.Inputs = append(made.Inputs, api.InputDef{Name: name, Type: l.Want})
		object.Fields = append(object.Fields, api.LitField{Name: name, Value: l.Value})
	}
	types := typesys.Build(slices.Concat(defs, []api.SysDef{made}))
	return lits.Check(types, object, api.TypeRef{Name: holder})
}
