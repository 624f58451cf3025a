package typesys

import (
	"strings"

	"pergola/api"
)

// Item is the type of a list type's items (a ! behind the list is passed over).
func Item(r api.TypeRef) (api.TypeRef, bool) {
	list, _ := Bare(r)
	wrap, ok := strings.CutSuffix(list.Wrap, "]")
	if !ok {
		return api.TypeRef{}, false
	}
	return api.TypeRef{Name: r.Name, Wrap: wrap}, true
}

// Bare is a type without the ! behind it.
func Bare(r api.TypeRef) (api.TypeRef, bool) {
	wrap, ok := strings.CutSuffix(r.Wrap, "!")
	return api.TypeRef{Name: r.Name, Wrap: wrap}, ok
}

// Fits: is every value of a's type one of b's?
func (t *Types) Fits(a, b api.TypeRef) bool {
	for a.Wrap != "" || b.Wrap != "" {
		mark, want := lastMark(a.Wrap), lastMark(b.Wrap)
		switch {
		case mark == want && (mark == '!' || mark == ']'):
			a.Wrap, b.Wrap = a.Wrap[:len(a.Wrap)-1], b.Wrap[:len(b.Wrap)-1]
		case mark == '!':
			a.Wrap = a.Wrap[:len(a.Wrap)-1]
		default:
			return false
		}
	}
	return t.Within(a.Name, b.Name)
}

// lastMark is a wrap's outermost mark; 0, which is no mark, of none.
func lastMark(wrap string) byte {
	if wrap == "" {
		return 0
	}
	return wrap[len(wrap)-1]
}
