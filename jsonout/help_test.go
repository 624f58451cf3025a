package jsonout_test

import (
	"math"
	"math/rand"
	"strconv"
	"strings"

	"pergola/api"
	"pergola/number"
)

const nested = 1 << 16 // as deep as the document promises

var minusZero = math.Copysign(0, -1)

func yes(b bool) api.Value { return api.Value{Kind: api.KindBool, Bool: b} }

func num(n int64) api.Value { return api.Value{Kind: api.KindInt, Int: n} }

func float(f float64) api.Value { return api.Value{Kind: api.KindFloat, Float: f} }

func text(s string) api.Value { return api.Value{Kind: api.KindString, Text: s} }

func list(l ...api.Value) api.Value { return api.Value{Kind: api.KindList, Items: l} }

func object(m ...api.Member) api.Value { return api.Value{Kind: api.KindObject, Fields: m} }

func mem(name string, v api.Value) api.Member { return api.Member{Name: name, Value: v} }

func handle(typ, name string) api.Value {
	return api.Value{Kind: api.KindHandle, Type: typ, Text: name}
}

// junk fills every field, with what would be refused if it counted; Kind alone says which of them count.
func junk(v api.Value) api.Value {
	full := api.Value{Kind: v.Kind, Bool: true, Int: 7, Float: math.NaN(), Text: "\xff", Type: "\xff", Items: []api.Value{handle("", "")}, Fields: []api.Member{mem("\xff", num(1)), mem("\xff", num(2))}}
	switch v.Kind {
	case api.KindBool:
		full.Bool = v.Bool
	case api.KindInt:
		full.Int = v.Int
	case api.KindFloat:
		full.Float = v.Float
	case api.KindString:
		full.Text = v.Text
	case api.KindList:
		full.Items = v.Items
	case api.KindObject:
		full.Fields = v.Fields
	case api.KindHandle:
		full.Type, full.Text = v.Type, v.Text
	}
	return full
}

// spelt is the canonical text by the chapter's words, of a value that is sound.
func spelt(v api.Value) string {
	var parts []string
	switch v.Kind {
	case api.KindBool:
		return strconv.FormatBool(v.Bool)
	case api.KindInt:
		return strconv.FormatInt(v.Int, 10)
	case api.KindFloat:
		return number.FloatText(v.Float)
	case api.KindString:
		return speltText(v.Text)
	case api.KindList:
		for _, x := range v.Items {
			parts = append(parts, spelt(x))
		}
		return "[" + strings.Join(parts, ",") + "]"
	case api.KindObject:
		for _, m := range v.Fields {
			parts = append(parts, speltText(m.Name)+":"+spelt(m.Value))
		}
		return "{" + strings.Join(parts, ",") + "}"
	}
	return "null"
}

// speltText goes by characters, where the program goes by bytes.
func speltText(s string) string {
	out := `"`
	for _, c := range s {
		const named = "\b\t\n\f\r"
		switch at := strings.IndexRune(named, c); {
		case c == 0x22 || c == 0x5c:
			out += "\x5c" + string(c)
		case at >= 0:
			out += "\x5c" + "btnfr"[at:at+1]
		case c < 0x20:
			hex := "000" + strconv.FormatInt(int64(c), 16)
			out += "\x5cu" + hex[len(hex)-4:]
		default:
			out += string(c)
		}
	}
	return out + `"`
}

// whole is the text of all fields of a value, at every depth, whether they count or not.
func whole(v api.Value) string {
	var out strings.Builder
	out.WriteString("(" + strconv.Itoa(int(v.Kind)) + strconv.FormatBool(v.Bool) + strconv.FormatInt(v.Int, 10) + " " + strconv.FormatUint(math.Float64bits(v.Float), 16) + strconv.Quote(v.Text) + strconv.Quote(v.Type) + "[")
	for _, x := range v.Items {
		out.WriteString(whole(x))
	}
	out.WriteString("]{")
	for _, m := range v.Fields {
		out.WriteString(strconv.Quote(m.Name) + whole(m.Value))
	}
	out.WriteString("})")
	return out.String()
}

// roomy is v with marked spare room behind all its lists; marks says whether the marks still stand.
func roomy(v api.Value) api.Value {
	mark := text("spare")
	items := make([]api.Value, 0, len(v.Items)+2)
	for _, x := range v.Items {
		items = append(items, roomy(x))
	}
	v.Items = append(items, mark, mark)[:len(items)]
	fields := make([]api.Member, 0, len(v.Fields)+2)
	for _, m := range v.Fields {
		fields = append(fields, mem(m.Name, roomy(m.Value)))
	}
	v.Fields = append(fields, mem("spare", mark), mem("spare", mark))[:len(fields)]
	return v
}

func marks(v api.Value) bool {
	ok := true
	for i, x := range v.Items[:len(v.Items)+2] {
		if i < len(v.Items) {
			ok = ok && marks(x)
		} else {
			ok = ok && x.Text == "spare"
		}
	}
	for i, m := range v.Fields[:len(v.Fields)+2] {
		if i < len(v.Fields) {
			ok = ok && marks(m.Value)
		} else {
			ok = ok && m.Name == "spare" && m.Value.Text == "spare"
		}
	}
	return ok
}

// goodLeaves are values without children that may be written, the edges of their kinds among them; badLeaves those that may not.
func goodLeaves() []api.Value {
	out := []api.Value{
		{}, yes(true), yes(false), num(0), num(1), num(-1), num(10), num(math.MinInt64), num(math.MaxInt64), float(0), float(minusZero), float(1), float(-1), float(10), float(1e21), float(5e-324),
		float(math.MaxFloat64), float(1 << 53), num(1 << 53), float(math.MinInt64), text(""), text("a"), text("null"), text("true"), text("1"), text("1.0"), text("[]"), text("{}"), text(","), text(`","`), text(`\`), text(`\n`), text("\n"), text(`"`), text("\u2028"), text("\ufffd"),
		text("\x00"), text(`\u0000`), text("\U0001f600"), text("\u00e9"), text("e\u0301"), list(), object(),
	}
	for _, v := range out {
		out = append(out, junk(v))
	}
	return out
}

func badLeaves() []api.Value {
	out := []api.Value{
		{Kind: -1}, {Kind: 8}, {Kind: math.MaxInt}, {Kind: math.MinInt}, handle("", ""), handle("T", "x"), float(math.NaN()), float(math.Copysign(math.NaN(), -1)), float(math.Inf(1)), float(math.Inf(-1)),
		text("\xff"), text("a\xc3"), text("\xc3("), text("\xed\xa0\x80"), text("\xc0\x80"), text("\xf4\x90\x80\x80"), text("\x80"),
	}
	for _, v := range out {
		out = append(out, junk(v))
	}
	return out
}

// random is a value over the leaves. Its names are often unlike, now and then twice or no text.
func random(source *rand.Rand, leaves []api.Value, depth int) api.Value {
	kind, n := source.Intn(4), source.Intn(4)
	switch {
	case depth > 0 && kind < 2:
		v := list()
		for range n {
			v.Items = append(v.Items, random(source, leaves, depth-1))
		}
		return v
	case depth > 0 && kind == 2:
		v := object()
		for i := range n {
			name := "ab\"\n"[i : i+1]
			switch source.Intn(24) {
			case 0:
				name = "\xc3"
			case 1:
				name = "a"
			}
			v.Fields = append(v.Fields, mem(name, random(source, leaves, depth-1)))
		}
		return v
	}
	return leaves[source.Intn(len(leaves))]
}

// chain is core inside of n lists and objects in turn, and ahead and behind is the text around it.
func chain(n int, core api.Value) (v api.Value, ahead, behind string) {
	var open, shut strings.Builder
	for i := range n {
		if i%2 == 0 {
			core = list(core)
			shut.WriteString("]")
		} else {
			core = object(mem("k", core))
			shut.WriteString("}")
		}
	}
	for i := n - 1; i >= 0; i-- {
		if i%2 == 0 {
			open.WriteString("[")
		} else {
			open.WriteString(`{"k":`)
		}
	}
	return core, open.String(), shut.String()
}
