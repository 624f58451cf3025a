package shape

import (
	"slices"
	"strconv"

	"pergola/api"
	"pergola/lits"
	"pergola/typesys"
)

// literal is a value in the type system, and the type of its place.
type literal struct {
	value api.Lit
	want  api.TypeRef
}

func literalRules(s *system, uses []use) []rule {
	return []rule{
		func(tell teller) {
			all := slices.Concat(given(uses), presets(s.args), presets(s.inputFields))
			for _, f := range s.literalFaults(all) {
				tell(f.Kind, f.Pos...)
			}
		},
	}
}

// given are the values of arguments in uses; what has no place in a directive's definition has the zero reference.
func given(uses []use) []literal {
	var all []literal
	for _, u := range uses {
		for _, arg := range u.Args {
			made := literal{value: arg.Value}
			if u.of != nil {
				made.want = u.of.types[arg.Name]
			}
			all = append(all, made)
		}
	}
	return all
}

// presets are the defaults of inputs.
func presets(inputs []api.InputDef) []literal {
	var all []literal
	for _, d := range inputs {
		if d.HasDefault {
			all = append(all, literal{d.Default, d.Type})
		}
	}
	return all
}

// literalFaults holds all literals against their types at one go, as the fields of one object at an input type that is made for it: each question looks up anew every type that it meets, so that a question for each literal would go through great types again and again.
func (s *system) literalFaults(all []literal) []api.Fault {
	holder := api.SysDef{Kind: api.SysInput, Name: "(all literals)"}
	object := api.Lit{Kind: api.LitObject}
	for i, l := range all {
		name := strconv.Itoa(i)
		holder.Inputs = append(holder.Inputs, api.InputDef{Name: name, Type: l.want})
		object.Fields = append(object.Fields, api.LitField{Name: name, Value: l.value})
	}
	// No source has a type of the holder's name, so that all other types are as they were.
	types := typesys.Build(append(slices.Clone(s.types), holder))
	return lits.Check(types, object, api.TypeRef{Name: holder.Name})
}
