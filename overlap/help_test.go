package overlap_test

import (
	"strconv"
	"strings"
	"testing"

	"pergola/api"
	"pergola/overlap"
	"pergola/query"
	"pergola/scope"
	"pergola/sdl"
	"pergola/shape"
	"pergola/typesys"
)

// chapter are the types of the chapter's examples.
const chapter = "interface I{a:Int b:I n:Int!} type Query implements I{a:Int b:I n:Int! q:Query c(x:Int y:Int):Int s:String} type T implements I{a:Int b:I n:Int! s:Int}"

// zoo has types of all kinds, and fields of one name that have other types elsewhere.
const zoo = `
	schema {query: Root mutation: Change}
	type Root implements N {n(k: Int): N o: O p: P u: U e: E x: Int y: [Int] z: [Int!]! self: Root f(i: Int j: In l: [Int] s: S v: String): O}
	type O implements N & M {n(k: Int): N o: O p: P u: [U] e: E! x: Int! y: [Int] self: O f(i: Int j: In): P}
	type P implements N {n(k: Int): O o: [O] p: P! u: V e: F x: String y: [[Int]] self: P g: Float}
	type V {n: Int o: V e: S x: ID v: V}
	type Change {o: O x: Int}
	interface N {n(k: Int): N}
	interface M implements N {n(k: Int): N x: Int e: E}
	union U = O | P | V
	union W = V
	enum E {A B} enum F {A} scalar S
	input In {a: Int b: In c: [In!] d: String}`

// calm has fields of one name that have one shape everywhere.
const calm = `
	schema {query: Root mutation: Change}
	type Root implements N {n(k: Int): N o: O x: Int self: Root u: U}
	type O implements N {n(k: Int): N o: P x: Int self: O u: U}
	type P implements N {n(k: Int): N o: O x: Int self: P u: V}
	type V {n: N o: V x: Int}
	type Change {o: O x: Int n: Change}
	interface N {n(k: Int): N}
	union U = O | P | V`

// read are the definitions of a source; of no source none.
func read(t testing.TB, src string) []api.SysDef {
	t.Helper()
	if src == "" {
		return nil
	}
	defs, fault := sdl.Parse([]byte(src), api.MostDepth)
	if fault.Kind != api.OK {
		t.Fatalf("%.500q is not read: %v", src, fault)
	}
	return defs
}

// sound is the type system of a source, which must have no fault.
func sound(t testing.TB, src string) *typesys.Types {
	t.Helper()
	defs := read(t, src)
	if faults := shape.Check(defs); len(faults) > 0 {
		t.Fatalf("%.2000q is not sound: %v", src, faults)
	}
	return typesys.Build(defs)
}

func parse(t testing.TB, src string) api.Document {
	t.Helper()
	doc, fault := query.Parse([]byte(src), api.MostDepth)
	if fault.Kind != api.OK {
		t.Fatalf("%.2000q is not read: %v", src, fault)
	}
	return doc
}

func placeText(p api.Pos) string {
	return strconv.Itoa(p.Line) + ":" + strconv.Itoa(p.Col)
}

// told are faults in their order: their places, and all that is not as it should be of this package's faults.
func told(faults []api.Fault) string {
	var texts []string
	for _, f := range faults {
		var places []string
		for _, p := range f.Pos {
			places = append(places, placeText(p))
		}
		text := strings.Join(places, " ")
		if f.Kind != api.ErrOverlap || len(f.Path) > 0 {
			text += " kind " + strconv.Itoa(int(f.Kind)) + " with a path of " + strconv.Itoa(len(f.Path))
		}
		texts = append(texts, text)
	}
	return strings.Join(texts, "; ")
}

// toldPairs are pairs in their order, by their nodes' places.
func toldPairs(s *scope.Sheet, pairs [][2]int) string {
	var texts []string
	for _, p := range pairs {
		one, _ := s.Node(p[0])
		other, _ := s.Node(p[1])
		texts = append(texts, placeText(one.Pos)+" "+placeText(other.Pos))
	}
	return strings.Join(texts, "; ")
}

// row is a document, and what a call answers for it.
type row struct{ doc, want string }

// call is one of the calls that answer a list.
type call int

const (
	pairs call = iota
	shapes
	check
)

func (c call) String() string {
	return []string{"Pairs", "Shapes", "Check"}[c]
}

// of is what the call answers, told.
func (c call) of(s *scope.Sheet) string {
	switch c {
	case pairs:
		return toldPairs(s, overlap.Pairs(s))
	case shapes:
		return toldPairs(s, overlap.Shapes(s))
	}
	return told(overlap.Check(s))
}

// checkRows holds a call's answers against rows, and all calls' answers against the model.
func checkRows(t *testing.T, types string, c call, rows []row) {
	t.Helper()
	system := sound(t, types)
	for _, r := range rows {
		doc := parse(t, r.doc)
		if got := c.of(scope.Lay(system, doc)); got != r.want {
			t.Errorf("%v of %s: got %q, want %q", c, r.doc, got, r.want)
		}
		hold(t, r.doc, system, doc)
	}
}
