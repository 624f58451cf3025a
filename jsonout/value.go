package jsonout

import (
	"pergola/api"
	"pergola/number"
	"pergola/utf"
)

// A pen takes the pieces of a text, one behind the other: Write keeps them, Size only counts them.
type pen func(piece string)

// A refusal is what a part that may not be written panics with: it stands at any depth, and nothing around it has more to say.
type refusal struct {
	errno api.Errno
}

// reason is the error of a refusal that was recovered. Anything else that panics is a mistake of this package, and is not hidden.
func reason(recovered any) api.Errno {
	return recovered.(refusal).errno
}

func refuse(errno api.Errno) {
	panic(refusal{errno})
}

// layValue refuses what tree.Sound has a fault of, and with that fault: it looks at the parts in the same order.
func layValue(v api.Value, lay pen) {
	switch v.Kind {
	case api.KindNull:
		lay("null")
	case api.KindBool:
		layBool(v.Bool, lay)
	case api.KindInt:
		lay(number.WholeText(v.Int))
	case api.KindFloat:
		layFloat(v.Float, lay)
	case api.KindString:
		refuseUnclean(v.Text)
		layText(v.Text, lay)
	case api.KindList:
		layList(v.Items, lay)
	case api.KindObject:
		refuseNames(v.Fields)
		layObject(v.Fields, lay)
	default:
		refuse(api.ErrKind)
	}
}

func layBool(b bool, lay pen) {
	if b {
		lay("true")
	} else {
		lay("false")
	}
}

func layFloat(f float64, lay pen) {
	text := number.FloatText(f)
	if text == "" {
		refuse(api.ErrFloat)
	}
	lay(text)
}

func layList(items []api.Value, lay pen) {
	lay("[")
	for i, item := range items {
		layComma(i, lay)
		layValue(item, lay)
	}
	lay("]")
}

func layObject(members []api.Member, lay pen) {
	lay("{")
	for i, m := range members {
		layComma(i, lay)
		layText(m.Name, lay)
		lay(":")
		layValue(m.Value, lay)
	}
	lay("}")
}

// layComma stands ahead of each element but the first.
func layComma(i int, lay pen) {
	if i > 0 {
		lay(",")
	}
}

func refuseUnclean(text string) {
	if !utf.Clean(text) {
		refuse(api.ErrText)
	}
}

// refuseNames looks at all of an object's names ahead of its values, as tree.Sound does.
func refuseNames(members []api.Member) {
	seen := make(map[string]struct{}, len(members))
	for _, m := range members {
		refuseUnclean(m.Name)
		if _, ok := seen[m.Name]; ok {
			refuse(api.ErrTwice)
		}
		seen[m.Name] = struct{}{}
	}
}
