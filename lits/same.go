package lits

import (
	"cmp"
	"slices"
	"strings"

	"pergola/api"
)

// order is an order of all literals in which just those are level that say the same field by field.
func order(a, b api.Lit) int {
	if c := cmp.Compare(a.Kind, b.Kind); c != 0 {
		return c
	}
	switch a.Kind {
	case api.LitNull:
		return 0
	case api.LitList:
		return slices.CompareFunc(a.Items, b.Items, order)
	case api.LitObject:
		return slices.CompareFunc(a.Fields, b.Fields, orderFields)
	}
	return strings.Compare(a.Text, b.Text)
}

func orderFields(a, b api.LitField) int {
	if c := strings.Compare(a.Name, b.Name); c != 0 {
		return c
	}
	return order(a.Value, b.Value)
}

// sorted is a literal with the fields of all its objects in one order: sorted lists can be paired just if they are level place by place.
func sorted(v api.Lit) api.Lit {
	switch v.Kind {
	case api.LitList:
		items := make([]api.Lit, len(v.Items))
		for i, item := range v.Items {
			items[i] = sorted(item)
		}
		v.Items = items
	case api.LitObject:
		fields := make([]api.LitField, len(v.Fields))
		for i, field := range v.Fields {
			fields[i] = api.LitField{Name: field.Name, Value: sorted(field.Value)}
		}
		slices.SortFunc(fields, orderFields)
		v.Fields = fields
	}
	return v
}
