package exec_test

import (
	"math/rand"
	"slices"
	"strconv"
	"strings"
	"testing"

	"pergola/api"
	"pergola/typesys"
)

// maker writes valid documents over the zoo by chance, and tables for them. A key stands for one field with one list of arguments wherever it is, so that all of one key merge.
type maker struct {
	r     *rand.Rand
	types *typesys.Types
	asks  bool     // does it write __schema, __type, and fields of introspection types and of custom scalars?
	rate  int      // of so many answers about one is wrong
	room  int      // how many selections may still be made
	ons   []string // the types of the fragments
	next  int      // the first of the fragments that may be spread: each spreads those behind it alone, so that none is on a ring
	met   []string
}

func newMaker(seed int64, types *typesys.Types, asks bool) *maker {
	m := &maker{r: rand.New(rand.NewSource(seed)), types: types, asks: asks}
	m.rate = oneOf(m, 3, 10, 30, 100)
	return m
}

func (m *maker) chance(one int) bool { return m.r.Intn(one) == 0 }

func oneOf[T any](m *maker, from ...T) T { return from[m.r.Intn(len(from))] }

// fieldTexts are a field's texts, each with its key. In introspection types fields of one name may have types that are unlike: there each has keys of its own.
func fieldTexts(in, name string) []string {
	if strings.HasPrefix(in, "__") {
		own := in[2:] + name + ": " + name
		if name == "fields" || name == "enumValues" {
			return []string{own, "all" + own + "(includeDeprecated: true)", "t" + own + "(includeDeprecated: $t)"}
		}
		return []string{own}
	}
	switch name {
	case "a":
		return []string{"a", "a1: a(x: 1)", "a2: a(x: $i)", "A: a(x: null)"}
	case "n":
		return []string{"n(x: 3)", "n1: n(x: $d)", "n2: n(x: 1 p: {y: $d})", "n3: n(p: {z: [$i 7 $d] y: 2} x: 1)", "n4: n(x: 4 p: null)"}
	case "__type":
		return []string{"__type(name: \"Query\")", "type1: __type(name: $n)", "type2: __type(name: \"E\")", "type3: __type(name: \"__Type\")"}
	}
	return []string{name, name + "1: " + name}
}

// fieldsOf are the names of the fields that may stand in a type's braces.
func (m *maker) fieldsOf(in string) []string {
	found := []string{"__typename"}
	def, _ := m.types.Type(in)
	for _, f := range def.Fields {
		if m.asks || !strings.HasPrefix(f.Type.Name, "__") && f.Type.Name != "S" {
			found = append(found, f.Name, f.Name)
		}
	}
	if in == "Query" && m.asks {
		found = append(found, "__schema", "__type")
	}
	return found
}

// applying are the types of fragments that may stand in a type's braces.
func (m *maker) applying(in string) []string {
	var found []string
	for _, on := range fragmentTypes() {
		if m.types.Meet(in, on) {
			found = append(found, on)
		}
	}
	return found
}

func fragmentTypes() []string { return []string{"I", "U", "Query", "O", "V"} }

func (m *maker) dirs() string {
	out := ""
	for _, name := range []string{" @skip", " @include"} {
		if m.chance(12) {
			out += name + "(if: " + oneOf(m, "true", "false", "$s", "$t", "$f") + ")"
		}
	}
	return out + " "
}

func (m *maker) selections(in string, depth int) string {
	out := ""
	for range 1 + m.r.Intn(min(max(m.room, 0)/3, 4)+1) {
		m.room--
		out += m.selection(in, depth)
	}
	return "{" + out + "}"
}

func (m *maker) selection(in string, depth int) string {
	choice := m.r.Intn(10)
	switch {
	case choice == 0 && depth > 0:
		return "..." + m.dirs() + m.selections(in, depth-1)
	case choice < 3 && depth > 0 && len(m.applying(in)) > 0:
		on := oneOf(m, m.applying(in)...)
		return "... on " + on + m.dirs() + m.selections(on, depth-1)
	case choice < 5:
		if spread := m.spread(in); spread != "" {
			return spread
		}
	}
	return m.field(in, depth)
}

func (m *maker) spread(in string) string {
	var found []int
	for i := m.next; i < len(m.ons); i++ {
		if m.types.Meet(in, m.ons[i]) {
			found = append(found, i)
		}
	}
	if len(found) == 0 {
		return ""
	}
	name := "F" + strconv.Itoa(oneOf(m, found...))
	m.met = append(m.met, name)
	return "..." + name + m.dirs()
}

func (m *maker) field(in string, depth int) string {
	name := oneOf(m, m.fieldsOf(in)...)
	def, _ := m.types.Field(in, name)
	isLeaf := m.types.Input(def.Type.Name)
	switch {
	case isLeaf && depth > 1 && m.room > 0 && !m.chance(3):
		return m.field(in, depth)
	case !isLeaf && depth == 0:
		return "__typename" + m.dirs()
	}
	out := oneOf(m, fieldTexts(in, name)...) + m.dirs()
	if isLeaf {
		return out
	}
	return out + m.selections(def.Type.Name, depth-1)
}

// document is the text of a valid document. Its first operation is one of a kind by chance, and its last one spreads all fragments that no other definition does.
func (m *maker) document() string {
	m.ons = make([]string, m.r.Intn(5))
	for i := range m.ons {
		m.ons[i] = oneOf(m, fragmentTypes()...)
	}
	m.next, m.room, m.met = 0, 15+m.r.Intn(30), nil
	root := oneOf(m, "Query", "Query", "Query", "Change", "Feed")
	sels := ""
	if root == "Feed" {
		sels = "{i " + m.selections("I", 4) + " i " + m.selections("I", 4) + "}"
	} else {
		sels = m.selections(root, 5)
	}
	var rest []string
	for i, on := range m.ons {
		m.next, m.room = i+1, 3+m.r.Intn(12)
		rest = append(rest, "fragment F"+strconv.Itoa(i)+" on "+on+" "+m.selections(on, 3))
	}
	last := "__typename "
	for i := range m.ons {
		if name := "F" + strconv.Itoa(i); !slices.Contains(m.met, name) {
			last += "..." + name + " "
		}
	}
	rest = append(rest, "query L {u {"+last+"}}")
	kind := map[string]string{"Query": "query", "Change": "mutation", "Feed": "subscription"}[root]
	return withVariables(append([]string{kind + " A " + sels}, rest...))
}

// withVariables gives each operation the definitions of just the variables that it uses, fragments and all.
func withVariables(defs []string) string {
	for i, def := range defs {
		if strings.HasPrefix(def, "fragment") {
			continue
		}
		reached := def
		for range defs {
			for _, other := range defs {
				name, isFragment := strings.CutPrefix(other, "fragment ")
				if isFragment && strings.Contains(reached, "..."+strings.Fields(name)[0]+" ") && !strings.Contains(reached, other) {
					reached += other
				}
			}
		}
		var vars []string
		for _, v := range []string{"$s: Boolean!", "$t: Boolean = true", "$f: Boolean = false", "$i: Int", "$d: Int = 5", "$n: String = \"O\""} {
			if strings.Contains(reached, v[:2]) {
				vars = append(vars, v)
			}
		}
		if len(vars) > 0 {
			words := strings.SplitN(def, " ", 3)
			defs[i] = words[0] + " " + words[1] + " (" + strings.Join(vars, " ") + ") " + words[2]
		}
	}
	return strings.Join(defs, "\n")
}

// given are variables that fit, as JSON.
func (m *maker) given() string {
	out := `{"s":` + oneOf(m, "true", "false")
	for _, name := range []string{"t", "f"} {
		if !m.chance(3) {
			out += `,"` + name + `":` + oneOf(m, "true", "false", "null")
		}
	}
	for _, name := range []string{"i", "d"} {
		if !m.chance(3) {
			out += `,"` + name + `":` + oneOf(m, "7", "-1", "null")
		}
	}
	return out + oneOf(m, "", `,"n":null`, `,"n":"Query"`, `,"n":"Nope"`) + "}"
}

// values by chance: what a field of that type is mostly answered with.
func (m *maker) value(want api.TypeRef, depth int) api.Value {
	if m.chance(m.rate) {
		return m.odd(depth)
	}
	bare, isSure := typesys.Bare(want)
	if m.chance(m.rate) && (!isSure || m.chance(4)) {
		return api.Value{Kind: oneOf(m, api.KindNull, api.KindNull, 9, -1)}
	}
	if item, isList := typesys.Item(bare); isList {
		v := api.Value{Kind: api.KindList}
		for range m.r.Intn(5) {
			v.Items = append(v.Items, m.value(item, depth))
		}
		return v
	}
	switch bare.Name {
	case "Int":
		return oneOf(m, api.Value{Kind: api.KindInt, Int: 7}, api.Value{Kind: api.KindFloat, Float: -2}, api.Value{Kind: api.KindInt, Int: -1 << 31})
	case "Float":
		return oneOf(m, api.Value{Kind: api.KindInt, Int: 7}, api.Value{Kind: api.KindFloat, Float: 0.5})
	case "Boolean":
		return api.Value{Kind: api.KindBool, Bool: m.chance(2)}
	case "E":
		return api.Value{Kind: api.KindString, Text: oneOf(m, "A", "B", "B", "B", "C")}
	case "String", "ID", "S":
		return api.Value{Kind: api.KindString, Text: oneOf(m, "", "x", "\u00e9", "x", "\xff")}
	case "__Type":
		return handle("__Type", oneOf(m, "Query", "E", "[Int!]", "Int!", "P", "S", "Nope", "U"))
	case "__Field":
		return handle("__Field", oneOf(m, "Query.a", "O.k", "Query.n", "Nope.a", "V.e"))
	}
	return handle(oneOf(m, m.types.Possible(bare.Name)...), oneOf(m, "", "own"))
}

// odd is a value of any kind.
func (m *maker) odd(depth int) api.Value {
	v := api.Value{Kind: api.Kind(m.r.Intn(10) - 1), Bool: m.chance(2), Int: 1 << 40, Float: 0.25, Text: "A", Type: oneOf(m, "O", "Query", "I", "Nope", "")}
	for range m.r.Intn(3) {
		if depth > 0 {
			v.Items = append(v.Items, m.odd(depth-1))
			v.Fields = append(v.Fields, api.Member{Name: oneOf(m, "a", "b"), Value: m.odd(depth - 1)})
		}
	}
	return v
}

// table makes rows for most of the look-ups of an operation, those that come of its own rows too, and some that no look-up meets.
func (m *maker) table(doc api.Document, vars []api.Member) []api.Entry {
	var rows []api.Entry
	seen := map[api.Call]struct{}{}
	for range 7 {
		r := modelled(m.types, doc, 0, vars, rows, 300)
		for _, call := range r.Trace {
			if _, isSeen := seen[call]; isSeen {
				continue
			}
			seen[call] = struct{}{}
			if m.chance(m.rate) {
				continue
			}
			def, _ := m.types.Field(call.Parent, call.Field)
			rows = append(rows, api.Entry{Call: call, Out: api.Outcome{Fail: m.chance(m.rate), Value: m.value(def.Type, 2)}})
			if m.chance(10) {
				rows = append(rows, api.Entry{Call: call, Out: api.Outcome{Value: m.value(def.Type, 2)}})
			}
			if m.chance(10) {
				call.Path += oneOf(m, "/a", "/0", "")
				call.Parent = oneOf(m, "Query", "O", "I")
				rows = append(rows, api.Entry{Call: call, Out: api.Outcome{Value: m.odd(1)}})
			}
		}
	}
	return rows
}

// made is a document by chance with all that its execution is handed.
type made struct {
	src     string
	doc     api.Document
	vars    []api.Member
	entries []api.Entry
}

func (m *maker) make(t testing.TB) made {
	t.Helper()
	out := made{src: m.document()}
	out.doc = valid(t, m.types, out.src)
	given := m.given()
	out.src += " with " + given
	out.vars = variables(t, m.types, out.doc, 0, given)
	out.entries = m.table(out.doc, out.vars)
	return out
}
