package overlap

import (
	"pergola/api"
	"pergola/scope"
)

// rule is what two fields of one key must keep.
type rule interface {
	// class tells fields apart that may not meet: those of two classes, of which neither is empty. They keep the rule, and what stands in their braces isn't held against each other.
	class(field api.Node) string
	// sign is what fields that may meet must share. One whose sign is empty keeps the rule with all.
	sign(field api.Node) string
}

// keep: are the numbers those of two field nodes that keep the rule?
func keep(r rule, s *scope.Sheet, a, b int) bool {
	one, _ := s.Node(a)
	other, _ := s.Node(b)
	if one.Kind != api.SelField || other.Kind != api.SelField {
		return false
	}
	return !mayMeet(r.class(one), r.class(other)) || isShared(r.sign(one), r.sign(other))
}

func mayMeet(class, other string) bool {
	return class == other || class == "" || other == ""
}

func isShared(sign, other string) bool {
	return sign == other || sign == "" || other == ""
}
