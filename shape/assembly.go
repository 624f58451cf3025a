package shape

import (
	"strconv"

	"pergola/api"
	"pergola/typesys"
)

// sorted are definitions by what they are.
type sorted struct {
	types, typeExtensions     []api.SysDef
	schemas, schemaExtensions []api.SysDef
	directives                []api.SysDef
	builtIn                   *typesys.Types
}

func sortDefs(defs []api.SysDef) *sorted {
	s := &sorted{builtIn: typesys.Build(nil)}
	for _, d := range defs {
		switch {
		case d.Kind == api.SysDirective:
			s.directives = append(s.directives, d)
		case d.Kind == api.SysSchema && d.Extend:
			s.schemaExtensions = append(s.schemaExtensions, d)
		case d.Kind == api.SysSchema:
			s.schemas = append(s.schemas, d)
		case d.Extend:
			s.typeExtensions = append(s.typeExtensions, d)
		default:
			s.types = append(s.types, d)
		}
	}
	return s
}

func (s *sorted) isBuiltInType(name string) bool {
	return s.builtIn.Within(name, name)
}

func (s *sorted) isBuiltInDirective(name string) bool {
	_, ok := s.builtIn.Directive(name)
	return ok
}

// own are those of the definitions that bear no built-in name.
func own(defs []api.SysDef, isBuiltIn func(name string) bool) []api.SysDef {
	var out []api.SysDef
	for _, d := range defs {
		if !isBuiltIn(d.Name) {
			out = append(out, d)
		}
	}
	return out
}

// firstKinds are the kinds of the types that definitions define, by their names.
func firstKinds(defs []api.SysDef) map[string]api.SysKind {
	kinds := map[string]api.SysKind{}
	for _, d := range defs {
		if _, ok := kinds[d.Name]; !ok {
			kinds[d.Name] = d.Kind
		}
	}
	return kinds
}

func assemblyRules(defs []api.SysDef, t *typesys.Types) []rule {
	s := sortDefs(defs)
	types := own(s.types, s.isBuiltInType)
	extensions := own(s.typeExtensions, s.isBuiltInType)
	kinds := firstKinds(types)
	return []rule{
		func(tell teller) { tell.twice(api.ErrTypeTwice, namesOf(types, ofDef)) },
		func(tell teller) {
			tell.twice(api.ErrDirTwice, namesOf(own(s.directives, s.isBuiltInDirective), ofDef))
		},
		// No schema has a name, so that all of them bear one.
		func(tell teller) { tell.twice(api.ErrSchemaTwice, namesOf(s.schemas, ofDef)) },
		func(tell teller) { tell.twice(api.ErrRootTwice, namesOf(t.Schema().Roots, ofOp)) },
		func(tell teller) { tell.builtIn(s.types, s.isBuiltInType) },
		func(tell teller) { tell.builtIn(s.typeExtensions, s.isBuiltInType) },
		func(tell teller) { tell.builtIn(s.directives, s.isBuiltInDirective) },
		func(tell teller) {
			for _, d := range extensions {
				if _, ok := kinds[d.Name]; !ok {
					tell(api.ErrExtendNone, d.Pos)
				}
			}
		},
		func(tell teller) {
			for _, d := range s.schemaExtensions {
				if len(s.schemas) == 0 {
					tell(api.ErrExtendNone, d.Pos)
				}
			}
		},
		func(tell teller) {
			for _, d := range extensions {
				if kind, ok := kinds[d.Name]; ok && kind != d.Kind {
					tell(api.ErrExtendKind, d.Pos)
				}
			}
		},
	}
}

// builtIn tells each definition that bears a built-in name.
func (tell teller) builtIn(defs []api.SysDef, isBuiltIn func(name string) bool) {
	for _, d := range defs {
		if isBuiltIn(d.Name) {
			tell(api.ErrBuiltIn, d.Pos)
		}
	}
}

// ofOp names a root by its operation.
func ofOp(r api.RootDef) api.Named {
	return api.Named{Name: strconv.Itoa(int(r.Op)), Pos: r.Pos}
}
