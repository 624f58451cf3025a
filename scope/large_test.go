package scope_test

import (
	"strconv"
	"strings"
	"testing"

	"pergola/api"
	"pergola/scope"
)

// A field, a directive and an input type with many inputs, each used many times: none is copied or gone through at each use.
func TestManyInputs(t *testing.T) {
	const many = 20000
	var inputs strings.Builder
	for i := range many {
		inputs.WriteString("a" + strconv.Itoa(i) + ": Int ")
	}
	types := sound(t, "type Query {f("+inputs.String()+" p: P): Query g: [Query]} input P {"+inputs.String()+"} directive @d("+inputs.String()+") repeatable on FIELD")
	s := scope.Lay(types, parse(t, "{"+strings.Repeat("f(a7: $v p: {a8: $w}) @d(a9: $x) g ", many)+"}"))
	uses := s.Uses()
	if len(uses) != 3*many || len(s.Spots()) != 3*many || len(s.Marks()) != many || len(s.Nodes()) != 2*many || len(s.Tops(0)) != 2*many {
		t.Fatal("laid out:", len(uses), len(s.Spots()), len(s.Marks()), len(s.Nodes()))
	}
	for _, u := range uses {
		if !u.Typed || u.Type != (api.TypeRef{Name: "Int"}) {
			t.Fatal("use:", u)
		}
	}
}

// Many types and fields, each of which is asked for once.
func TestManyTypes(t *testing.T) {
	const many = 10000
	var types, doc strings.Builder
	types.WriteString("type Query {a: Int")
	doc.WriteString("{a")
	for i := range many {
		number := strconv.Itoa(i)
		types.WriteString(" f" + number + ": T" + number)
		doc.WriteString(" f" + number + " {a} ... on T" + number + " {b} n" + number)
	}
	types.WriteString("} ")
	for i := range many {
		types.WriteString("type T" + strconv.Itoa(i) + " {a: Int} ")
	}
	nodes := scope.Lay(sound(t, types.String()), parse(t, doc.String()+"}")).Nodes()
	if len(nodes) != 5*many+1 {
		t.Fatal("nodes:", len(nodes))
	}
	for i := 1; i < len(nodes); i += 5 {
		name := "T" + strconv.Itoa(i/5)
		if n := nodes[i+1]; !nodes[i].Known || n.Parent != name || !n.Known || nodes[i+3].Parent != name || nodes[i+3].Known || nodes[i+4].Known {
			t.Fatal("nodes:", nodes[i:i+5])
		}
	}
}

// fragments are n of them; each spreads the next one twice, so that there are two ways from each to the next.
func fragments(n int) string {
	var out strings.Builder
	for i := range n {
		next := strconv.Itoa(i + 1)
		out.WriteString("fragment F" + strconv.Itoa(i) + " on Query {...F" + next + " ... {...F" + next + "}} ")
	}
	return out.String() + "fragment F" + strconv.Itoa(n) + " on Query {a}"
}

// P16.4: the work grows with the number of definitions, not with the number of ways through them; long ways and rings too.
func TestReachOfMany(t *testing.T) {
	const many = 5000
	for _, end := range []string{"", " {...F0}", " {...F4000} {a} {...F0 ...F4999}"} {
		s := lay(t, chapter, fragments(many)+end)
		for _, def := range []int{0, 1, many / 2, many - 1, many} {
			reach := s.Reach(def)
			if len(reach) != many-def || len(reach) > 0 && (reach[0] != def+1 || reach[len(reach)-1] != many) {
				t.Error("Reach of", def, len(reach))
			}
		}
		if end != "" && len(s.Reach(many+1)) != map[bool]int{true: many + 1, false: 1001}[end == " {...F0}"] {
			t.Error("Reach of an operation:", len(s.Reach(many+1)))
		}
	}
	ring := strings.TrimSuffix(fragments(many), "{a}") + "{...F0}"
	s := lay(t, chapter, ring)
	for def := range many + 1 {
		if def%100 == 0 && len(s.Reach(def)) != many+1 {
			t.Fatal("Reach in a ring:", len(s.Reach(def)))
		}
	}
}

// A definition that spreads one fragment very often, asked very often.
func TestReachOfOneOften(t *testing.T) {
	s := lay(t, chapter, "{"+strings.Repeat("...F ", 50000)+"} fragment F on Query {"+strings.Repeat("...F ", 50000)+"}")
	for range 50000 {
		if reach := s.Reach(0); len(reach) != 1 || reach[0] != 1 {
			t.Fatal("Reach:", reach)
		}
	}
}

// A nil type system is built once for a sheet, not at each question.
func TestManyWithoutTypes(t *testing.T) {
	const many = 100000
	s := scope.Lay(nil, parse(t, "{"+strings.Repeat("... on __Type {a}", many)+"}"))
	if nodes := s.Nodes(); len(nodes) != 2*many || nodes[1].Parent != "__Type" || nodes[1].Known {
		t.Error("nodes:", len(nodes))
	}
}
