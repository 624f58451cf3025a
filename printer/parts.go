package printer

import (
	"strings"

	"pergola/api"
)

func reference(r api.TypeRef) piece {
	lists := strings.Count(r.Wrap, "]")
	return word(strings.Repeat("[", lists) + r.Name + r.Wrap)
}

func literal(v api.Lit) piece {
	switch v.Kind {
	case api.LitVar:
		return word("$" + v.Text)
	case api.LitInt, api.LitFloat, api.LitBool, api.LitEnum:
		return word(v.Text)
	case api.LitNull:
		return word("null")
	case api.LitString:
		return quote{v.Block, v.Text}
	case api.LitList:
		return listed{each(v.Items, literal), "[", ", ", "]"}
	case api.LitObject:
		return listed{each(v.Fields, objectField), "{", ", ", "}"}
	}
	return row{} // no source gives another kind
}

// objectField is a field of an object literal, which is written as an argument is.
func objectField(f api.LitField) piece {
	return argument(api.Arg(f))
}

func argument(a api.Arg) piece {
	return row{word(a.Name + ": "), literal(a.Value)}
}

func directives(dirs []api.Dir) piece {
	return row(each(dirs, directive))
}

func directive(d api.Dir) piece {
	return row{word(" @" + d.Name), rounded(each(d.Args, argument))}
}

// defaulted is a default, if there is one.
func defaulted(has bool, v api.Lit) piece {
	if !has {
		return row{}
	}
	return row{word(" = "), literal(v)}
}

// operation is the keyword of a kind of operations.
func operation(kind api.DefKind) string {
	switch kind {
	case api.DefMutation:
		return "mutation"
	case api.DefSubscription:
		return "subscription"
	}
	return "query"
}
