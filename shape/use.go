package shape

import (
	"slices"

	"pergola/api"
)

func useRules(s *system) []rule {
	spots := s.spots()
	uses := slices.Concat(spots...)
	return slices.Concat(dirRules(spots, uses), argRules(uses), literalRules(s, uses))
}

func dirRules(spots [][]use, uses []use) []rule {
	return []rule{
		func(tell teller) {
			for _, u := range uses {
				if u.of == nil {
					tell(api.ErrDirNone, u.Pos)
				}
			}
		},
		func(tell teller) {
			for _, u := range uses {
				if u.of != nil && !u.of.stands(u.place) {
					tell(api.ErrDirPlace, u.Pos)
				}
			}
		},
		func(tell teller) {
			for _, uses := range spots {
				tell.twice(api.ErrDirSame, single(uses))
			}
		},
	}
}

// single are those of the uses at a spot that may not be repeated there.
func single(uses []use) []api.Named {
	var names []api.Named
	for _, u := range uses {
		if u.of != nil && !u.of.repeatable {
			names = append(names, api.Named{Name: u.Name, Pos: u.Pos})
		}
	}
	return names
}

func argRules(uses []use) []rule {
	return []rule{
		func(tell teller) {
			for _, u := range uses {
				for _, arg := range u.Args {
					if u.of != nil && !u.of.hasArg(arg.Name) {
						tell(api.ErrArgNone, arg.Pos)
					}
				}
			}
		},
		func(tell teller) {
			for _, u := range uses {
				tell.twice(api.ErrArgSame, namesOf(u.Args, ofArg))
			}
		},
		func(tell teller) {
			for _, u := range uses {
				if u.of != nil && u.of.asksMoreThan(u.Args) {
					tell(api.ErrArgMissing, u.Pos)
				}
			}
		},
	}
}
