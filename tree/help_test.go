package tree_test

import (
	"math"
	"math/rand"
	"strconv"
	"strings"
	"testing"

	"pergola/api"
	"pergola/tree"
)

const nested = 1 << 16 // as deep as the document promises

var minusZero = math.Copysign(0, -1)

func yes(b bool) api.Value { return api.Value{Kind: api.KindBool, Bool: b} }

func num(n int64) api.Value { return api.Value{Kind: api.KindInt, Int: n} }

func float(f float64) api.Value { return api.Value{Kind: api.KindFloat, Float: f} }

func text(s string) api.Value { return api.Value{Kind: api.KindString, Text: s} }

func list(l ...api.Value) api.Value { return api.Value{Kind: api.KindList, Items: l} }

func object(m ...api.Member) api.Value { return api.Value{Kind: api.KindObject, Fields: m} }

func handle(typ, name string) api.Value {
	return api.Value{Kind: api.KindHandle, Type: typ, Text: name}
}

func mem(name string, v api.Value) api.Member { return api.Member{Name: name, Value: v} }

func name(s string) api.Step { return api.Step{Name: s} }

func item(i int) api.Step { return api.Step{Item: true, Index: i} }

func path(s ...api.Step) []api.Step { return s }

// sample is the value of the chapter's examples.
func sample() api.Value {
	return object(mem("a", list(num(1), object(mem("b", api.Value{})))), mem("c", text("x")))
}

// junk fills every field; Kind alone says which of them count.
func junk(kind api.Kind) api.Value {
	return api.Value{Kind: kind, Bool: true, Int: 7, Float: 2.5, Text: "t", Type: "T", Items: []api.Value{num(1), list(num(2))}, Fields: []api.Member{mem("x", num(3)), mem("x", handle("A", "b"))}}
}

// whole is the text of all fields of a value, at every depth, whether they count or not.
func whole(v api.Value) string {
	var out strings.Builder
	out.WriteString("(" + strconv.Itoa(int(v.Kind)) + strconv.FormatBool(v.Bool) + strconv.FormatInt(v.Int, 10) + " " + strconv.FormatUint(math.Float64bits(v.Float), 16) + strconv.Quote(v.Text) + strconv.Quote(v.Type) + "[")
	for _, x := range v.Items {
		out.WriteString(whole(x))
	}
	out.WriteString("]{")
	for _, m := range v.Fields {
		out.WriteString(strconv.Quote(m.Name) + whole(m.Value))
	}
	out.WriteString("})")
	return out.String()
}

// counting is the text of what counts of a value: equal values have the same, others another.
func counting(v api.Value) string {
	var parts []string
	switch v.Kind {
	case api.KindBool:
		return "bool " + strconv.FormatBool(v.Bool)
	case api.KindInt:
		return "int " + strconv.FormatInt(v.Int, 10)
	case api.KindFloat:
		if v.Float != v.Float {
			return "float NaN"
		}
		return "float " + strconv.FormatUint(math.Float64bits(v.Float), 16)
	case api.KindString:
		return "text " + strconv.Quote(v.Text)
	case api.KindHandle:
		return "handle " + strconv.Quote(v.Type) + strconv.Quote(v.Text)
	case api.KindList:
		for _, x := range v.Items {
			parts = append(parts, counting(x))
		}
		return "[" + strings.Join(parts, ",") + "]"
	case api.KindObject:
		for _, m := range v.Fields {
			parts = append(parts, strconv.Quote(m.Name)+":"+counting(m.Value))
		}
		return "{" + strings.Join(parts, ",") + "}"
	}
	return "null"
}

// scribble writes over all memory that a value holds, spare room too.
func scribble(v api.Value) {
	items, fields := v.Items[:cap(v.Items)], v.Fields[:cap(v.Fields)]
	for i := range items {
		if i < len(v.Items) {
			scribble(items[i])
		}
		items[i] = text("scribbled")
	}
	for i := range fields {
		if i < len(v.Fields) {
			scribble(fields[i].Value)
		}
		fields[i] = mem("scribbled", text("scribbled"))
	}
}

// roomy is v with marked spare room behind all its lists; marks says whether the marks still stand.
func roomy(v api.Value) api.Value {
	mark := text("spare")
	items := make([]api.Value, 0, len(v.Items)+2)
	for _, x := range v.Items {
		items = append(items, roomy(x))
	}
	v.Items = append(items, mark, mark)[:len(items)]
	fields := make([]api.Member, 0, len(v.Fields)+2)
	for _, m := range v.Fields {
		fields = append(fields, mem(m.Name, roomy(m.Value)))
	}
	v.Fields = append(fields, mem("spare", mark), mem("spare", mark))[:len(fields)]
	return v
}

func marks(v api.Value) bool {
	items, fields := v.Items[:len(v.Items)+2], v.Fields[:len(v.Fields)+2]
	ok := true
	for i, x := range items {
		if i < len(v.Items) {
			ok = ok && marks(x)
		} else {
			ok = ok && x.Text == "spare"
		}
	}
	for i, m := range fields {
		if i < len(v.Fields) {
			ok = ok && marks(m.Value)
		} else {
			ok = ok && m.Name == "spare" && m.Value.Text == "spare"
		}
	}
	return ok
}

// leaves are values of every kind without children, the edges of their kinds among them; of some, fields are filled that don't count.
func leaves() []api.Value {
	out := []api.Value{
		{}, yes(true), yes(false), num(0), num(1), num(-1), num(math.MinInt64), num(math.MaxInt64), float(0), float(minusZero), float(1), float(math.NaN()),
		float(math.Float64frombits(0x7FF8000000000123)), float(math.Copysign(math.NaN(), -1)), float(math.Inf(1)), float(math.Inf(-1)), float(5e-324),
		text(""), text("a"), text("b"), text("ab"), text("\xff"), text("é"), text("\xed\xa0\x80"), handle("", ""), handle("T", "x"), handle("T", "y"), handle("U", "x"), handle("Tx", ""), list(), object(),
		{Kind: 8}, {Kind: -1}, {Kind: math.MaxInt}, {Kind: math.MinInt},
	}
	for k := api.Kind(-1); k <= 8; k++ {
		if k != api.KindList && k != api.KindObject {
			out = append(out, junk(k))
		}
	}
	return append(out, api.Value{Kind: api.KindList, Int: 3, Fields: []api.Member{mem("x", num(1))}}, api.Value{Kind: api.KindObject, Text: "z", Items: []api.Value{num(1)}})
}

// random is a value of few names and few leaves, so that equal parts and names that stand twice come often.
func random(source *rand.Rand, few []api.Value, depth int) api.Value {
	names := []string{"a", "b", "a", ""}
	n := source.Intn(4)
	switch kind := source.Intn(3); {
	case depth > 0 && kind == 0:
		var items []api.Value
		for range n {
			items = append(items, random(source, few, depth-1))
		}
		return list(items...)
	case depth > 0 && kind == 1:
		var fields []api.Member
		for range n {
			fields = append(fields, mem(names[source.Intn(len(names))], random(source, few, depth-1)))
		}
		return object(fields...)
	}
	return few[source.Intn(len(few))]
}

// chain is core inside of n lists and objects in turn.
func chain(n int, core api.Value) api.Value {
	for i := range n {
		if i%2 == 0 {
			core = list(core)
		} else {
			core = object(mem("k", core))
		}
	}
	return core
}

// chainPath is the path of chain's core.
func chainPath(n int) []api.Step {
	var out []api.Step
	for i := n - 1; i >= 0; i-- {
		if i%2 == 0 {
			out = append(out, item(0))
		} else {
			out = append(out, name("k"))
		}
	}
	return out
}

// stepsOf is a path spelt out, all its fields.
func stepsOf(p []api.Step) string {
	var out strings.Builder
	for _, s := range p {
		out.WriteString("<" + strconv.Quote(s.Name) + strconv.Itoa(s.Index) + strconv.FormatBool(s.Item) + ">")
	}
	return out.String()
}

// read is the path that has this text.
func read(t *testing.T, s string) []api.Step {
	t.Helper()
	p, ok := tree.PathRead(s)
	if !ok {
		t.Fatalf("PathRead(%q) refuses", s)
	}
	return p
}
