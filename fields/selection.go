package fields

import (
	"pergola/api"
	"pergola/rules"
	"pergola/scope"
	"pergola/typesys"
)

// sort is a sort of types.
type sort int

const (
	neither sort = iota
	leaf
	composite
)

// field is a field, and the sort of its type; what isn't known has no type.
type field struct {
	api.Node
	of sort
}

func fieldsOf(s *scope.Sheet) []field {
	types := rules.Types(s)
	var fields []field
	for _, node := range s.Nodes() {
		if node.Kind == api.SelField {
			fields = append(fields, field{node, sortOf(types, node.Type.Name)})
		}
	}
	return fields
}

func (f field) At() api.Pos { return f.Pos }

// sortOf asks whether a type goes in or out, for to ask for the type itself would copy its definition. Scalars and enums alone go both ways.
func sortOf(types *typesys.Types, name string) sort {
	switch {
	case !types.Output(name):
		return neither
	case types.Input(name):
		return leaf
	}
	return composite
}
