package coerce_test

import (
	"math"
	"math/rand"
	"slices"
	"strconv"
	"strings"
	"testing"

	"pergola/api"
	"pergola/coerce"
	"pergola/printer"
	"pergola/sdl"
	"pergola/shape"
	"pergola/typesys"
)

// maker makes type systems, values and literals by chance. One choice in slip goes wrong on purpose.
type maker struct {
	r     *rand.Rand
	slip  int
	src   string
	types *typesys.Types
	plans []plan
}

// plan is a variable: its type, and its value, if it has one.
type plan struct {
	name  string
	typ   api.TypeRef
	has   bool
	value api.Value
}

func (m *maker) chance(one int) bool { return m.r.Intn(one) == 0 }

func (m *maker) slips() bool { return m.chance(m.slip) }

func (m *maker) oneOf(words string) string {
	list := strings.Fields(words)
	return list[m.r.Intn(len(list))]
}

// typ is the text of a reference to a type of input.
func (m *maker) typ() string {
	name := m.oneOf("Int Float String Boolean ID E S I0 I1 I2 I3 I0 I1 I2 I3")
	if m.chance(3) {
		name += "!"
	}
	for m.chance(3) {
		name = "[" + name + "]"
		if m.chance(3) {
			name += "!"
		}
	}
	return name
}

// system makes a sound type system; the arguments of q are the fields of Q.
func (m *maker) system() {
	for {
		src := "enum E {A B C} scalar S "
		for i := range 4 {
			src += "input I" + strconv.Itoa(i) + " {" + m.fields() + "} "
		}
		args := m.fields()
		src += "input Q {" + args + "} type Query {q(" + args + "): Int s(x: S): Int}"
		defs, fault := sdl.Parse([]byte(src), api.MostDepth)
		if fault.Kind == api.OK && len(shape.Check(defs)) == 0 {
			m.src, m.types = src, typesys.Build(defs)
			return
		}
	}
}

// fields are the definitions of some inputs of unlike names. Defaults are written by hand, so that most fit.
func (m *maker) fields() string {
	out := ""
	for _, i := range m.r.Perm(6)[:1+m.r.Intn(5)] {
		typ := m.typ()
		out += "abcdef"[i:i+1] + ": " + typ
		if m.chance(3) {
			out += " = " + m.preset(typ)
		}
		out += " "
	}
	return out
}

func (m *maker) preset(typ string) string {
	name := strings.Trim(typ, "[]!")
	texts := map[string]string{"Int": "0 -7", "Float": "0.5 3", "String": `"" "x"`, "Boolean": "true false", "ID": `7 "y"`, "E": "A B", "S": `{x:[1]} [A] 7 "x"`}[name]
	if texts == "" {
		texts = "{} {} {a:null} {b:{}}"
	}
	text := m.oneOf(texts)
	if strings.HasPrefix(typ, "[") && m.chance(2) {
		text = "[" + text + "," + text + "]"
	}
	if !strings.HasSuffix(typ, "!") && m.chance(6) {
		text = "null"
	}
	return text
}

// value is a value for a type, mostly a fitting one.
func (m *maker) value(want api.TypeRef, depth int) api.Value {
	if m.slips() {
		return m.any(depth)
	}
	bare, marked := typesys.Bare(want)
	if !marked && m.chance(6) {
		return api.Value{}
	}
	if item, ok := typesys.Item(bare); ok {
		if depth > 0 && m.chance(3) {
			if one := m.value(item, depth); one.Kind != api.KindNull && one.Kind != api.KindList {
				return one
			}
		}
		out := list()
		for depth > 0 && m.chance(2) {
			out.Items = append(out.Items, m.value(item, depth-1))
		}
		return out
	}
	def, _ := m.types.Type(want.Name)
	switch def.Kind {
	case api.SysEnum:
		return text(m.oneOf("A B C"))
	case api.SysInput:
		return m.object(def, depth)
	}
	return m.scalar(want.Name, depth)
}

func (m *maker) scalar(name string, depth int) api.Value {
	whole := whole([]int64{0, 1, -5, 1 << 31, math.MaxInt32, math.MinInt32, math.MaxInt64, 1<<53 + 1}[m.r.Intn(8)])
	switch name {
	case "Int":
		whole.Int = int64(int32(whole.Int))
		return whole
	case "Float":
		if m.chance(2) {
			return whole
		}
		return api.Value{Kind: api.KindFloat, Float: []float64{0, math.Copysign(0, -1), 0.5, 1e300, -3}[m.r.Intn(5)]}
	case "String":
		return text(m.oneOf("A x é"))
	case "Boolean":
		return api.Value{Kind: api.KindBool, Bool: m.chance(2)}
	case "ID":
		if m.chance(2) {
			return whole
		}
		return text(m.oneOf("A x 7"))
	}
	return m.free(depth)
}

// object has the members that must be there, and some others, in any order.
func (m *maker) object(def api.SysDef, depth int) api.Value {
	out := object(nil)
	for _, i := range m.r.Perm(len(def.Inputs)) {
		input := def.Inputs[i]
		_, marked := typesys.Bare(input.Type)
		must := marked && !input.HasDefault && depth > -4
		if must && !m.slips() || depth > 0 && m.chance(2) {
			out.Fields = append(out.Fields, api.Member{Name: input.Name, Value: m.value(input.Type, depth-1)})
		}
	}
	if m.slips() {
		out.Fields = append(out.Fields, api.Member{Name: m.oneOf("a b z"), Value: m.any(0)})
		m.r.Shuffle(len(out.Fields), func(i, k int) { out.Fields[i], out.Fields[k] = out.Fields[k], out.Fields[i] })
	}
	return out
}

// free is a value that is sound.
func (m *maker) free(depth int) api.Value {
	switch k := m.r.Intn(8); {
	case k == 0 && depth > 0:
		out := list()
		for m.chance(2) {
			out.Items = append(out.Items, m.free(depth-1))
		}
		return out
	case k == 1 && depth > 0:
		out := object(nil)
		for _, name := range []string{"a", "b", "z"} {
			if m.chance(2) {
				out.Fields = append(out.Fields, api.Member{Name: name, Value: m.free(depth - 1)})
			}
		}
		return out
	case k == 2:
		return api.Value{}
	}
	return m.scalar(m.oneOf("Int Float String Boolean ID"), depth)
}

// any is a value that may be no input value at all.
func (m *maker) any(depth int) api.Value {
	if !m.chance(4) {
		return m.free(depth)
	}
	return []api.Value{
		{Kind: api.KindHandle, Type: "I0", Text: "A"},
		{Kind: 99, Int: 7},
		{Kind: -1},
		text("\xff"),
		{Kind: api.KindFloat, Float: math.NaN()},
		{Kind: api.KindFloat, Float: math.Inf(-1)},
		{Kind: api.KindObject, Fields: []api.Member{{Name: "a"}, {Name: "a"}}},
	}[m.r.Intn(7)]
}

// variable is the use of a variable that fits a place.
func (m *maker) variable(t testing.TB, want api.TypeRef) string {
	bare, _ := typesys.Bare(want)
	for _, i := range m.r.Perm(len(m.plans)) {
		if has, _ := typesys.Bare(m.plans[i].typ); has == bare && m.chance(2) {
			return "$" + m.plans[i].name
		}
	}
	p := plan{name: "v" + strconv.Itoa(len(m.plans)), typ: bare}
	if m.chance(2) {
		p.typ = want
	}
	if !m.chance(3) {
		v, err := coerce.Input(m.types, m.value(p.typ, 3), p.typ)
		p.has, p.value = err == nil, v
	}
	m.plans = append(m.plans, p)
	return "$" + p.name
}

// vars are the variables that have a value, in any order.
func (m *maker) vars() []api.Member {
	var out []api.Member
	for _, i := range m.r.Perm(len(m.plans)) {
		if m.plans[i].has {
			out = append(out, api.Member{Name: m.plans[i].name, Value: m.plans[i].value})
		}
	}
	return out
}

// literal is the text of a literal for a type; where constant doesn't hold, variables may stand in it.
func (m *maker) literal(t testing.TB, want api.TypeRef, depth int, constant bool) string {
	if !constant && m.chance(4) {
		return m.variable(t, want)
	}
	bare, marked := typesys.Bare(want)
	if !marked && m.chance(8) {
		return "null"
	}
	if item, ok := typesys.Item(bare); ok {
		if depth > 0 && m.chance(3) {
			if one := m.literal(t, item, depth, constant); one[0] != '[' && one[0] != '$' && one != "null" {
				return one
			}
		}
		out := ""
		for depth > 0 && m.chance(2) {
			out += m.literal(t, item, depth-1, constant) + " "
		}
		return "[" + out + "]"
	}
	def, _ := m.types.Type(want.Name)
	switch {
	case def.Kind == api.SysInput:
		return m.literalObject(t, def, depth, constant)
	case want.Name == "S":
		return m.literalFree(t, depth, constant)
	}
	v := m.value(api.TypeRef{Name: want.Name, Wrap: "!"}, 0)
	for model(t, m.types, v, api.TypeRef{Name: want.Name, Wrap: "!"})[0] == ' ' {
		v = m.value(api.TypeRef{Name: want.Name, Wrap: "!"}, 0)
	}
	return printer.Lit(litOf(m.types, v, want))
}

func (m *maker) literalObject(t testing.TB, def api.SysDef, depth int, constant bool) string {
	out := ""
	for _, i := range m.r.Perm(len(def.Inputs)) {
		input := def.Inputs[i]
		_, marked := typesys.Bare(input.Type)
		if marked && !input.HasDefault || depth > 0 && m.chance(2) {
			out += input.Name + ": " + m.literal(t, input.Type, depth-1, constant) + " "
		}
	}
	return "{" + out + "}"
}

func (m *maker) literalFree(t testing.TB, depth int, constant bool) string {
	switch k := m.r.Intn(7); {
	case k == 0 && !constant:
		return m.variable(t, api.TypeRef{Name: "S"})
	case k < 3 && depth > 0:
		out := ""
		for m.chance(2) {
			out += m.literalFree(t, depth-1, constant) + " "
		}
		return "[" + out + "]"
	case k < 5 && depth > 0:
		out := ""
		for _, name := range []string{"c", "b", "a"} {
			if m.chance(2) {
				out += name + ": " + m.literalFree(t, depth-1, constant) + " "
			}
		}
		return "{" + out + "}"
	}
	return m.oneOf(`0 1 -0 2147483648 9223372036854775808 1.5 -0.0 "" "A" true false A null`)
}

// typed are the references to all types of input, with up to three marks.
func typed(names ...string) []api.TypeRef {
	var out []api.TypeRef
	for _, name := range names {
		for _, wrap := range []string{"", "!", "]", "]!", "!]", "!]!", "]]", "!]]", "]!]", "]]!"} {
			out = append(out, api.TypeRef{Name: name, Wrap: wrap})
		}
	}
	return slices.Clip(out)
}
