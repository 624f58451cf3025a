package shape

import (
	"slices"

	"pergola/api"
)

func ifaceRules(s *system) []rule {
	bonds := s.bonds()
	return slices.Concat(bondRules(s, bonds), fieldRules(s, bonds))
}

func bondRules(s *system, bonds []bond) []rule {
	return []rule{
		func(tell teller) {
			for _, b := range bonds {
				if !s.isOwn(b.name, api.SysInterface) {
					tell.each(api.ErrIface, b.places)
				}
			}
		},
		func(tell teller) {
			for _, b := range bonds {
				if len(b.places) > 1 {
					tell(api.ErrIfaceTwice, b.places...)
				}
			}
		},
		func(tell teller) {
			for _, b := range bonds {
				if b.name == b.by.Name {
					tell.each(api.ErrIfaceSelf, b.places)
				}
			}
		},
		func(tell teller) {
			for _, b := range bonds {
				if b.of != nil && !b.by.namesAllOf(b.of) {
					tell.each(api.ErrIfaceMore, b.places)
				}
			}
		},
		func(tell teller) {
			for b, asked := range gaps(bonds) {
				for _, place := range b.places {
					tell(api.ErrImplField, place, asked.Pos)
				}
			}
		},
	}
}

func fieldRules(s *system, bonds []bond) []rule {
	return []rule{
		func(tell teller) {
			for has, asked := range matches(bonds) {
				if !s.asked.Fits(has.Type, asked.Type) {
					tell(api.ErrImplType, has.Pos, asked.Pos)
				}
			}
		},
		func(tell teller) {
			for has, asked := range matches(bonds) {
				for _, arg := range asked.Args {
					if !has.hasArg(arg.Name) {
						tell(api.ErrImplArg, has.Pos, arg.Pos)
					}
				}
			}
		},
		func(tell teller) {
			for has, asked := range matches(bonds) {
				for name, arg := range asked.first.All() {
					if other, ok := has.first.Get(name); ok && other.Type != arg.Type {
						tell(api.ErrImplArgType, other.Pos, arg.Pos)
					}
				}
			}
		},
		func(tell teller) {
			for has, asked := range matches(bonds) {
				for _, arg := range has.Args {
					if isRequired(arg) && !asked.hasArg(arg.Name) {
						tell(api.ErrImplExtra, arg.Pos, asked.Pos)
					}
				}
			}
		},
	}
}
