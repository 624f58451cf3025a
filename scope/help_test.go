package scope_test

import (
	"fmt"
	"reflect"
	"strings"
	"testing"

	"pergola/api"
	"pergola/printer"
	"pergola/query"
	"pergola/scope"
	"pergola/sdl"
	"pergola/shape"
	"pergola/typesys"
)

// chapter are the types of the chapter's examples.
const chapter = "type Query {a: Int q(x: I = {b: 1} s: S): Query u: U} union U = Query input I {b: Int c: [I] = []} scalar S"

// read are the definitions of a source; of no source none.
func read(t testing.TB, src string) []api.SysDef {
	t.Helper()
	if src == "" {
		return nil
	}
	defs, fault := sdl.Parse([]byte(src), api.MostDepth)
	if fault.Kind != api.OK {
		t.Fatalf("%.500q is not read: %v", src, fault)
	}
	return defs
}

// sound is the type system of a source, which must have no fault.
func sound(t testing.TB, src string) *typesys.Types {
	t.Helper()
	defs := read(t, src)
	if faults := shape.Check(defs); len(faults) > 0 {
		t.Fatalf("%.2000q is not sound: %v", src, faults)
	}
	return typesys.Build(defs)
}

func parse(t testing.TB, src string) api.Document {
	t.Helper()
	doc, fault := query.Parse([]byte(src), api.MostDepth)
	if fault.Kind != api.OK {
		t.Fatalf("%.2000q is not read: %v", src, fault)
	}
	return doc
}

// lay is the sheet of a source by a sound type system.
func lay(t testing.TB, types, doc string) *scope.Sheet {
	t.Helper()
	return scope.Lay(sound(t, types), parse(t, doc))
}

func placeText(p api.Pos) string { return fmt.Sprintf("%d:%d", p.Line, p.Col) }

// typeText is a type as it is written, - where there is none.
func typeText(r api.TypeRef) string {
	if r == (api.TypeRef{}) {
		return "-"
	}
	return printer.Type(r)
}

func orDash(s string) string {
	if s == "" {
		return "-"
	}
	return s
}

// flags are the words that hold.
func flags(words ...any) string {
	out := ""
	for i := 0; i+1 < len(words); i += 2 {
		if words[i+1] == true {
			out += " " + words[i].(string)
		}
	}
	return out
}

// nodeText is a node without its arguments and directives.
func nodeText(n api.Node) string {
	name := n.Key + ":" + n.Name
	switch n.Kind {
	case api.SelSpread:
		name = "..." + n.Name
	case api.SelInline:
		name = "...on " + orDash(n.On)
	}
	return fmt.Sprintf("%s in %s: %s%s, def %d up %d kids %v at %s", name, orDash(n.Parent), typeText(n.Type), flags("known", n.Known), n.Def, n.Up, n.Kids, placeText(n.Pos))
}

func useText(u api.Use) string {
	return fmt.Sprintf("$%s at %s: %s%s, def %d", u.Name, placeText(u.Pos), typeText(u.Type), flags("typed", u.Typed, "preset", u.HasDefault), u.Def)
}

func spotText(s api.Spot) string {
	return fmt.Sprintf("%s at %s: %s%s, def %d", printer.Lit(s.Value), placeText(s.Value.Pos), typeText(s.Type), flags("typed", s.Typed, "preset", s.HasDefault), s.Def)
}

func markText(m api.Mark) string {
	return fmt.Sprintf("@%s(%d) at %s: %s of %d%s, def %d", m.Dir.Name, len(m.Dir.Args), placeText(m.Dir.Pos), m.Place, m.Owner, flags("known", m.Known), m.Def)
}

func lines[T any](list []T, text func(T) string) []string {
	var out []string
	for _, element := range list {
		out = append(out, text(element))
	}
	return out
}

// checkLines holds lines against a text of which each line counts without the blanks around it.
func checkLines(t testing.TB, what string, got []string, want string) {
	t.Helper()
	var wanted []string
	for line := range strings.Lines(want) {
		if line = strings.TrimSpace(line); line != "" {
			wanted = append(wanted, line)
		}
	}
	if !reflect.DeepEqual(got, wanted) {
		t.Errorf("%s: got\n\t%s\nwant\n\t%s", what, strings.Join(got, "\n\t"), strings.Join(wanted, "\n\t"))
	}
}

func checkNodes(t testing.TB, s *scope.Sheet, want string) {
	t.Helper()
	checkLines(t, "Nodes", lines(s.Nodes(), nodeText), want)
}

func checkUses(t testing.TB, s *scope.Sheet, want string) {
	t.Helper()
	checkLines(t, "Uses", lines(s.Uses(), useText), want)
}

func checkSpots(t testing.TB, s *scope.Sheet, want string) {
	t.Helper()
	checkLines(t, "Spots", lines(s.Spots(), spotText), want)
}

func checkMarks(t testing.TB, s *scope.Sheet, want string) {
	t.Helper()
	checkLines(t, "Marks", lines(s.Marks(), markText), want)
}

// answered is what all calls answer of a sheet, but for its type system.
type answered struct {
	Document  api.Document
	Nodes     []api.Node
	Single    []api.Node
	Tops      [][]int
	Uses      []api.Use
	Spots     []api.Spot
	Marks     []api.Mark
	Fragments []found
	Reach     [][]int
}

type found struct {
	Number int
	OK     bool
}

// answers asks a sheet all that can be asked, and some that can't.
func answers(s *scope.Sheet) answered {
	a := answered{Document: s.Document(), Nodes: s.Nodes(), Uses: s.Uses(), Spots: s.Spots(), Marks: s.Marks()}
	for i := -1; i <= len(a.Nodes); i++ {
		node, ok := s.Node(i)
		if ok != (i >= 0 && i < len(a.Nodes)) {
			node.Name = "Node answers wrongly whether there is one"
		}
		a.Single = append(a.Single, node)
	}
	for i := -1; i <= len(a.Document.Defs); i++ {
		a.Tops = append(a.Tops, s.Tops(i))
		a.Reach = append(a.Reach, s.Reach(i))
	}
	for _, name := range append(names(a), "", "nope", "A", "F0") {
		number, ok := s.Fragment(name)
		a.Fragments = append(a.Fragments, found{number, ok})
	}
	return a
}

// names are all names that a fragment could have.
func names(a answered) []string {
	var out []string
	for _, def := range a.Document.Defs {
		out = append(out, def.Name)
	}
	for _, node := range a.Nodes {
		out = append(out, node.Name)
	}
	return out
}

// alike holds two things against each other; a list of no elements may be nil or empty.
func alike(t testing.TB, what string, got, want any) {
	t.Helper()
	if !reflect.DeepEqual(even(got), even(want)) {
		t.Errorf("%s: got\n%.3000s\nwant\n%.3000s", what, fmt.Sprint(got), fmt.Sprint(want))
	}
}

// even is a deep copy in which lists of no elements are nil.
func even(thing any) any {
	out := reflect.New(reflect.TypeOf(thing)).Elem()
	layCopy(out, reflect.ValueOf(thing))
	return out.Interface()
}

func layCopy(to, from reflect.Value) {
	switch from.Kind() {
	case reflect.Struct:
		for i := range from.NumField() {
			layCopy(to.Field(i), from.Field(i))
		}
	case reflect.Slice:
		if from.Len() == 0 {
			return
		}
		to.Set(reflect.MakeSlice(from.Type(), from.Len(), from.Len()))
		for i := range from.Len() {
			layCopy(to.Index(i), from.Index(i))
		}
	default:
		to.Set(from)
	}
}
