package shape

import (
	"slices"

	"pergola/api"
	"pergola/batch"
)

func literalRules(s *system, uses []use) []rule {
	return []rule{
		func(tell teller) {
			all := slices.Concat(given(uses), presets(s.args), presets(s.inputFields))
			for _, f := range batch.Faults(s.types, all) {
				tell(f.Kind, f.Pos...)
			}
		},
	}
}

// given are the values of arguments in uses; what has no place in a directive's definition has the zero reference.
func given(uses []use) []batch.Literal {
	var all []batch.Literal
	for _, u := range uses {
		for _, arg := range u.Args {
			made := batch.Literal{Value: arg.Value}
			if u.of != nil {
				made.Want = u.of.types[arg.Name]
			}
			all = append(all, made)
		}
	}
	return all
}

// presets are the defaults of inputs.
func presets(inputs []api.InputDef) []batch.Literal {
	var all []batch.Literal
	for _, d := range inputs {
		if d.HasDefault {
			all = append(all, batch.Literal{Value: d.Default, Want: d.Type})
		}
	}
	return all
}
