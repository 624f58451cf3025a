package shape

import (
	"slices"

	"pergola/api"
)

func rootRules(s *system) []rule {
	roots := s.schema.Roots
	return []rule{
		func(tell teller) {
			if !slices.ContainsFunc(roots, isQuery) {
				tell(api.ErrNoQuery)
			}
		},
		func(tell teller) {
			for _, r := range roots {
				if !s.isOwn(r.Type, api.SysObject) {
					tell(api.ErrRootKind, r.Pos)
				}
			}
		},
		func(tell teller) {
			ops := countOps(roots)
			for _, b := range byName(namesOf(roots, ofRootType)) {
				if ops[b.name] > 1 {
					tell(api.ErrRootSame, b.places...)
				}
			}
		},
	}
}

func isQuery(r api.RootDef) bool {
	return r.Op == api.DefQuery
}

// countOps says of each root's type for how many operations it stands.
func countOps(roots []api.RootDef) map[string]int {
	met := map[api.RootDef]struct{}{}
	ops := map[string]int{}
	for _, r := range roots {
		r.Pos = api.Pos{}
		if _, ok := met[r]; !ok {
			met[r] = struct{}{}
			ops[r.Type]++
		}
	}
	return ops
}

func ofRootType(r api.RootDef) api.Named {
	return api.Named{Name: r.Type, Pos: r.Pos}
}
