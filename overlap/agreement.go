package overlap

import (
	"slices"
	"strconv"
	"strings"

	"pergola/api"
	"pergola/scope"
)

// agreement is the rule that fields which may meet are one field with the same arguments.
type agreement struct {
	types  *kinds
	values *values
}

func newAgreement(s *scope.Sheet) agreement {
	return agreement{newKinds(s), newValues()}
}

// class is the parent type, if it is an object type: no two of these may meet.
func (a agreement) class(field api.Node) string {
	if a.types.of(field.Parent) != object {
		return ""
	}
	return field.Parent
}

// sign has each argument once: of those that are there several times just their number in all counts.
func (a agreement) sign(field api.Node) string {
	args := make([]string, len(field.Args))
	for i, arg := range field.Args {
		args[i] = arg.Name + ":" + strconv.Itoa(a.values.number(arg.Value))
	}
	slices.Sort(args)
	args = slices.Compact(args)
	return field.Name + "(" + strconv.Itoa(len(field.Args)) + " " + strings.Join(args, " ") + ")"
}
