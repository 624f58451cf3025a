package overlap

import (
	"pergola/api"
	"pergola/scope"
)

// likeness is the rule that fields have one shape, whether they may meet or not.
type likeness struct {
	types *kinds
}

func newLikeness(s *scope.Sheet) likeness {
	return likeness{newKinds(s)}
}

func (l likeness) class(api.Node) string {
	return ""
}

// sign leaves the names of composite types out: what they are like is seen in their fields.
func (l likeness) sign(field api.Node) string {
	switch {
	case !field.Known:
		return ""
	case l.types.of(field.Type.Name) == neither:
		return field.Type.Wrap + " " + field.Type.Name
	}
	return field.Type.Wrap + "{}"
}
