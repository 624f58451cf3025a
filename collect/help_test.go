package collect_test

import (
	"reflect"
	"slices"
	"strconv"
	"strings"
	"testing"

	"pergola/api"
	"pergola/check"
	"pergola/coerce"
	"pergola/collect"
	"pergola/jsonin"
	"pergola/query"
	"pergola/sdl"
	"pergola/shape"
	"pergola/typesys"
)

// chapter are the types of the chapter's examples.
const chapter = `type Query {a(x: Int): Int o: I u: U} interface I {a: Int b: Int} type O implements I {a: Int b: Int c: Int}
	type P implements I {a: Int b: Int} union U = O | P`

// zoo has types of all kinds. A field of one name has one type wherever it is, so that fields may always merge that have one name and one list of arguments.
const zoo = `
	schema {query: Query mutation: Change subscription: Feed}
	interface I {a(x: Int): Int b: String i: I u: U}
	interface J implements I {a(x: Int): Int b: String i: I u: U j: J}
	type Query implements I {a(x: Int): Int b: String i: I u: U j: J v: V q: Query}
	type O implements J & I {a(x: Int): Int b: String i: I u: U j: J c: Int q: Query}
	type P implements I {a(x: Int): Int b: String i: I u: U v: V c: Int}
	type Apart {a(x: Int): Int}
	type Change implements I {a(x: Int): Int b: String i: I u: U}
	type Feed {a(x: Int): Int i: I}
	union U = O | P
	union V = Query | O | P | Apart
	scalar S
	enum E {A}
	input N {a: Int}
	directive @uses(of: [Boolean] i: Int) on QUERY | MUTATION | SUBSCRIPTION | FRAGMENT_DEFINITION
	directive @many(if: Boolean) repeatable on FIELD | FRAGMENT_SPREAD | INLINE_FRAGMENT | FRAGMENT_DEFINITION`

// read are the definitions of a source.
func read(t testing.TB, src string) []api.SysDef {
	t.Helper()
	defs, fault := sdl.Parse([]byte(src), api.MostDepth)
	if fault.Kind != api.OK {
		t.Fatalf("%.500q is not read: %v", src, fault)
	}
	return defs
}

// sound is the type system of a source, which must have no fault.
func sound(t testing.TB, src string) *typesys.Types {
	t.Helper()
	defs := read(t, src)
	if faults := shape.Check(defs); len(faults) > 0 {
		t.Fatalf("%.2000q is not sound: %v", src, faults)
	}
	return typesys.Build(defs)
}

func parse(t testing.TB, src string) api.Document {
	t.Helper()
	doc, fault := query.Parse([]byte(src), api.MostDepth)
	if fault.Kind != api.OK {
		t.Fatalf("%.2000q is not read: %v", src, fault)
	}
	return doc
}

// valid is the document of a source, which must have no fault.
func valid(t testing.TB, types *typesys.Types, src string) api.Document {
	t.Helper()
	doc := parse(t, src)
	if faults := check.All(types, doc); len(faults) > 0 {
		t.Fatalf("%.2000q is not valid: %v", src, faults)
	}
	return doc
}

// variables are those of an operation, out of JSON.
func variables(t testing.TB, types *typesys.Types, doc api.Document, op int, given string) []api.Member {
	t.Helper()
	v, _, errno := jsonin.Read([]byte(given), api.MostDepth)
	if errno != api.OK {
		t.Fatalf("%s is not read", given)
	}
	vars, faults := coerce.Variables(types, doc, op, v)
	if len(faults) > 0 {
		t.Fatalf("%s are not the variables of %v: %v", given, doc, faults)
	}
	return vars
}

// told are groups as keys, each with its numbers.
func told(groups []api.Group) string {
	texts := make([]string, len(groups))
	for i, g := range groups {
		texts[i] = g.Key + ":"
		for _, n := range g.Nodes {
			texts[i] += " " + strconv.Itoa(n)
		}
	}
	return strings.Join(texts, "; ")
}

func parsed(t testing.TB, numbers string) []int {
	t.Helper()
	var out []int
	for _, text := range strings.Fields(numbers) {
		n, err := strconv.Atoi(text)
		if err != nil {
			t.Fatal(err)
		}
		out = append(out, n)
	}
	return out
}

// row is a document over the zoo, the variables of its first operation, and what is collected: of Root, where object is empty, else of Sub.
type row struct {
	doc, given    string
	object, nodes string
	want          string
}

func (r row) ask(t testing.TB, p *collect.Plan) string {
	t.Helper()
	if r.object == "" {
		return told(p.Root())
	}
	return told(p.Sub(r.object, parsed(t, r.nodes)))
}

func checkRows(t *testing.T, types *typesys.Types, rows []row) {
	t.Helper()
	for _, r := range rows {
		doc := valid(t, types, r.doc)
		given := r.given
		if given == "" {
			given = "{}"
		}
		p := collect.New(types, doc, 0, variables(t, types, doc, 0, given))
		if got := r.ask(t, p); got != r.want {
			t.Errorf("%s with %s, %s of %s: got %s, want %s", r.doc, given, r.object, r.nodes, got, r.want)
		}
	}
}

// names are all types' names, and some that are none.
func names(types *typesys.Types) []string {
	return slices.Concat(types.Names(), []string{"", "Nope", "o", "Int!"})
}

// answered is all that a plan answers to a few questions.
type answered struct {
	Root  []api.Group
	Subs  [][]api.Group
	Nodes []api.Node
	Has   []bool
}

// nodesOf is how many nodes a plan has.
func nodesOf(p *collect.Plan) int {
	for n := 0; ; n++ {
		if _, ok := p.Node(n); !ok {
			return n
		}
	}
}

// answers are those of a plan: the subs of each node, and of all at one go, for each type.
func answers(p *collect.Plan, types *typesys.Types) answered {
	a := answered{Root: p.Root()}
	count := nodesOf(p)
	var all []int
	for i := -1; i <= count; i++ {
		node, ok := p.Node(i)
		a.Nodes, a.Has = append(a.Nodes, node), append(a.Has, ok)
		all = append(all, i)
	}
	for _, object := range names(types) {
		a.Subs = append(a.Subs, p.Sub(object, all))
		for _, i := range all {
			a.Subs = append(a.Subs, p.Sub(object, []int{i}))
		}
	}
	return a
}

// even is a thing in which lists of no elements are nil.
func even(thing any) any { return evened(reflect.ValueOf(thing)).Interface() }

func evened(v reflect.Value) reflect.Value {
	out := reflect.New(v.Type()).Elem()
	switch v.Kind() {
	case reflect.Struct:
		for i := range v.NumField() {
			out.Field(i).Set(evened(v.Field(i)))
		}
	case reflect.Slice:
		if v.Len() > 0 {
			out.Set(reflect.MakeSlice(v.Type(), v.Len(), v.Len()))
		}
		for i := range v.Len() {
			out.Index(i).Set(evened(v.Index(i)))
		}
	default:
		out.Set(v)
	}
	return out
}

func alike(t testing.TB, what string, got, want any) {
	t.Helper()
	if !reflect.DeepEqual(even(got), even(want)) {
		t.Errorf("%s: got %.2000v, want %.2000v", what, got, want)
	}
}

// numbered is a text for each number below n, in which each # is the number and each + the next one.
func numbered(n int, text string) string {
	var out strings.Builder
	for i := range n {
		out.WriteString(strings.NewReplacer("#", strconv.Itoa(i), "+", strconv.Itoa(i+1)).Replace(text))
	}
	return out.String()
}
