package introspect

import (
	"pergola/api"
	"pergola/typesys"
)

// schema is the type system as a whole.
type schema struct {
	types *typesys.Types
}

func (s schema) answer(field string, _ []api.Member) api.Value {
	switch field {
	case "description":
		return description(s.types.Schema().Note)
	case "types":
		return list(s.types.Names(), namedHandle)
	case "queryType":
		return s.root(api.DefQuery)
	case "mutationType":
		return s.root(api.DefMutation)
	case "subscriptionType":
		return s.root(api.DefSubscription)
	case "directives":
		return list(s.types.Directives(), directiveHandle)
	}
	return api.Value{}
}

func (s schema) root(op api.DefKind) api.Value {
	name := s.types.Root(op)
	if !isType(s.types, name) {
		return api.Value{}
	}
	return namedHandle(name)
}
