package shape

import (
	"slices"
	"strings"

	"pergola/api"
)

func nameRules(s *system) []rule {
	return []rule{
		func(tell teller) { tell.reserved(namesOf(s.types, ofDef)) },
		func(tell teller) { tell.reserved(namesOf(s.directives, ofDef)) },
		func(tell teller) { tell.reserved(namesOf(s.fields, ofField)) },
		func(tell teller) { tell.reserved(namesOf(s.values, ofValue)) },
		func(tell teller) { tell.reserved(namesOf(s.args, ofInput)) },
		func(tell teller) { tell.reserved(namesOf(s.inputFields, ofInput)) },
	}
}

// reserved tells each name that begins as those of the introspection do.
func (tell teller) reserved(names []api.Named) {
	for _, n := range names {
		if strings.HasPrefix(n.Name, "__") {
			tell(api.ErrName, n.Pos)
		}
	}
}

func partRules(s *system) []rule {
	return []rule{
		func(tell teller) {
			for _, d := range s.types {
				if d.Kind != api.SysScalar && len(partsOf(d))+len(d.Members) == 0 {
					tell(api.ErrEmpty, d.Pos)
				}
			}
		},
		func(tell teller) {
			for _, d := range s.types {
				tell.twice(api.ErrPartTwice, partsOf(d))
			}
		},
		func(tell teller) {
			for _, f := range s.fields {
				tell.twice(api.ErrInputTwice, namesOf(f.Args, ofInput))
			}
		},
		func(tell teller) {
			for _, d := range s.directives {
				tell.twice(api.ErrInputTwice, namesOf(d.Inputs, ofInput))
			}
		},
	}
}

// partsOf are a type's fields, values or input fields, for no type has two of these.
func partsOf(d api.SysDef) []api.Named {
	return slices.Concat(namesOf(d.Fields, ofField), namesOf(d.Values, ofValue), namesOf(d.Inputs, ofInput))
}

func refRules(s *system) []rule {
	inputs := slices.Concat(s.args, s.inputFields)
	return []rule{
		func(tell teller) {
			for _, f := range s.fields {
				if !s.isType(f.Type.Name) {
					tell(api.ErrTypeNone, f.Pos)
				}
			}
		},
		func(tell teller) {
			for _, d := range inputs {
				if !s.isType(d.Type.Name) {
					tell(api.ErrTypeNone, d.Pos)
				}
			}
		},
		func(tell teller) {
			for _, f := range s.fields {
				if s.isType(f.Type.Name) && !s.asked.Output(f.Type.Name) {
					tell(api.ErrOutput, f.Pos)
				}
			}
		},
		func(tell teller) {
			for _, d := range inputs {
				if s.isType(d.Type.Name) && !s.asked.Input(d.Type.Name) {
					tell(api.ErrInput, d.Pos)
				}
			}
		},
	}
}

func memberRules(s *system) []rule {
	return []rule{
		func(tell teller) {
			for _, d := range s.types {
				for _, member := range d.Members {
					if !s.isOwn(member.Name, api.SysObject) {
						tell(api.ErrMember, member.Pos)
					}
				}
			}
		},
		func(tell teller) {
			for _, d := range s.types {
				tell.twice(api.ErrMemberTwice, d.Members)
			}
		},
	}
}
