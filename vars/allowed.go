package vars

import (
	"pergola/api"
	"pergola/typesys"
)

// Allowed: may a variable of a type stand at a place of a type? A default, of the variable or of the place, stands in for a value that isn't given.
func Allowed(has api.TypeRef, hasDefault bool, want api.TypeRef, wantDefault bool) bool {
	_, isNonNull := typesys.Bare(has)
	bare, wantsNonNull := typesys.Bare(want)
	if wantsNonNull && !isNonNull {
		return (hasDefault || wantDefault) && agree(has, bare)
	}
	return agree(has, want)
}

// agree: is every value of a variable's type one of a place's type? The marks are taken off from the outermost on.
func agree(has, want api.TypeRef) bool {
	for has.Wrap != "" || want.Wrap != "" {
		mark := lastMark(has.Wrap)
		switch {
		case mark == lastMark(want.Wrap) && (mark == '!' || mark == ']'):
			want.Wrap = want.Wrap[:len(want.Wrap)-1]
		case mark != '!':
			return false
		}
		has.Wrap = has.Wrap[:len(has.Wrap)-1]
	}
	return has.Name == want.Name
}

// lastMark is a wrap's outermost mark; 0, which is no mark, of none.
func lastMark(wrap string) byte {
	if wrap == "" {
		return 0
	}
	return wrap[len(wrap)-1]
}
