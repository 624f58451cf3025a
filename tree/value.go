package tree

import (
	"cmp"
	"math"
	"slices"
	"strings"

	"pergola/api"
	"pergola/number"
)

// Equal: the same value, members in the same order.
func Equal(a, b api.Value) bool {
	return order(a, b) == 0
}

// Same: the same value, members in any order.
func Same(a, b api.Value) bool {
	return order(sorted(a), sorted(b)) == 0
}

// order is an order of all values in which just equal ones are level: what is Same apart from its members' order becomes Equal when it is sorted by it.
func order(a, b api.Value) int {
	kind := kindOf(a)
	if c := cmp.Compare(kind, kindOf(b)); c != 0 {
		return c
	}
	switch kind {
	case api.KindBool:
		return orderBools(a.Bool, b.Bool)
	case api.KindInt:
		return cmp.Compare(a.Int, b.Int)
	case api.KindFloat:
		return orderFloats(a.Float, b.Float)
	case api.KindString:
		return strings.Compare(a.Text, b.Text)
	case api.KindList:
		return slices.CompareFunc(a.Items, b.Items, order)
	case api.KindObject:
		return slices.CompareFunc(a.Fields, b.Fields, orderMembers)
	case api.KindHandle:
		return cmp.Or(strings.Compare(a.Type, b.Type), strings.Compare(a.Text, b.Text))
	}
	return 0
}

func orderMembers(a, b api.Member) int {
	if c := strings.Compare(a.Name, b.Name); c != 0 {
		return c
	}
	return order(a.Value, b.Value)
}

func orderBools(a, b bool) int {
	switch {
	case a == b:
		return 0
	case b:
		return -1
	}
	return 1
}

func orderFloats(a, b float64) int {
	if number.Same(a, b) {
		return 0
	}
	if c := cmp.Compare(a, b); c != 0 {
		return c
	}
	// Only 0 and -0 are unlike and yet level so far.
	return orderBools(math.Signbit(b), math.Signbit(a))
}

// sorted is v with the members of all its objects in one order.
func sorted(v api.Value) api.Value {
	switch v.Kind {
	case api.KindList:
		v.Items = each(v.Items, sorted)
	case api.KindObject:
		v.Fields = each(v.Fields, func(m api.Member) api.Member {
			return api.Member{Name: m.Name, Value: sorted(m.Value)}
		})
		slices.SortFunc(v.Fields, orderMembers)
	}
	return v
}

// Copy shares no memory with v.
func Copy(v api.Value) api.Value {
	v.Items = each(v.Items, Copy)
	v.Fields = each(v.Fields, func(m api.Member) api.Member {
		return api.Member{Name: m.Name, Value: Copy(m.Value)}
	})
	return v
}

// Count is the number of parts.
func Count(v api.Value) int {
	n := 1
	for _, child := range children(v) {
		n += Count(child)
	}
	return n
}

// Depth is the number of lists and objects that are nested.
func Depth(v api.Value) int {
	if v.Kind != api.KindList && v.Kind != api.KindObject {
		return 0
	}
	deepest := 0
	for _, child := range children(v) {
		deepest = max(deepest, Depth(child))
	}
	return 1 + deepest
}
