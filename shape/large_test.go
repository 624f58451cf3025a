package shape_test

import (
	"fmt"
	"strings"
	"testing"
	"time"

	"pergola/api"
)

// many writes a text for each number.
func many(n int, text func(i int) string) string {
	var out strings.Builder
	for i := range n {
		out.WriteString(text(i))
	}
	return out.String()
}

// numbered is a text in which # stands for the number, and + for the next.
func numbered(n int, text string) string {
	return many(n, func(i int) string {
		return strings.ReplaceAll(strings.ReplaceAll(text, "#", fmt.Sprint(i)), "+", fmt.Sprint(i+1))
	})
}

// mostTime is far more than all calls take whose work grows with the definitions' size, and less than they would take if each part went through all others' copies.
const mostTime = 10 * time.Second

// checkLarge: all calls end in time; Check has so many faults.
func checkLarge(t *testing.T, what, src string, want int) {
	t.Helper()
	defs := read(t, src)
	begin := time.Now()
	all := answers(defs)
	if took := time.Since(begin); took > mostTime {
		t.Error(what, "took", took)
	}
	if got := all[len(all)-1]; len(got) != want {
		t.Errorf("%s: %d faults, not %d: %.300s", what, len(got), want, told(got[:min(len(got), 5)]))
	}
	holdCounts(t, what, all)
}

// holdCounts: the calls have no fault in common, so that Check has as many as all of them.
func holdCounts(t *testing.T, what string, all [][]api.Fault) {
	t.Helper()
	sum := 0
	for _, faults := range all[:len(all)-1] {
		sum += len(faults)
	}
	if sum != len(all[len(all)-1]) {
		t.Errorf("%s: %d faults of all calls, %d of Check", what, sum, len(all[len(all)-1]))
	}
}

const query = "type Query{a:Int}"

// P14.5: many definitions and extensions, of many names and of one.
func TestManyDefinitions(t *testing.T) {
	const n = 5000
	checkLarge(t, "types", query+numbered(n, "type A#{a:A+ b:Int}")+"scalar A5000", 0)
	checkLarge(t, "one name", query+strings.Repeat("type A{a:Int}", n), 1)
	checkLarge(t, "two of each", query+numbered(n, "type A#{a:Int}")+numbered(n, "enum A#{A}"), n)
	checkLarge(t, "directives", query+strings.Repeat("directive@d on ENUM ", n)+numbered(n, "directive@d# on ENUM "), 1)
	checkLarge(t, "built-in", query+strings.Repeat("type Int{a:Int}directive@skip on ENUM ", n), 2*n)
	checkLarge(t, "extensions", query+"type A{a:Int}"+numbered(n, "extend type A{b#:Int}"), 0)
	checkLarge(t, "extensions of one part", query+"type A{a:Int}"+strings.Repeat("extend type A{a:Int}", n), 1)
	checkLarge(t, "extensions of none", query+numbered(n, "extend type A#{a:Int}"), n)
	checkLarge(t, "extensions of another kind", query+"type A{a:Int}"+strings.Repeat("extend enum A{A}", n), n)
	checkLarge(t, "schemas", query+strings.Repeat("schema{query:Query}", n), 1)
	checkLarge(t, "schema's extensions", query+"schema{query:Query}"+strings.Repeat("extend schema{mutation:X}", n), n+1)
	checkLarge(t, "roots", "schema{query:Query "+numbered(n, "mutation:A# subscription:A# ")+"}"+query+numbered(n, "type A#{a:Int}"), 2+n)
}

// P14.5: many parts in one type, of many names and of one, and in many types.
func TestManyParts(t *testing.T) {
	const n = 6000
	checkLarge(t, "fields", "type Query{"+numbered(n, "a#:Int ")+"}", 0)
	checkLarge(t, "fields of one name", "type Query{"+strings.Repeat("a:Int ", n)+"}", 1)
	checkLarge(t, "fields, each twice", "type Query{"+numbered(n, "a#:X ")+numbered(n, "a#:X ")+"}", 3*n)
	checkLarge(t, "arguments", "type Query{a("+numbered(n, "a#:Int ")+"):Int b("+strings.Repeat("b:Int ", n)+"):Int}", 1)
	checkLarge(t, "values", query+"enum E{"+numbered(n, "A# B# A# ")+"}", n)
	checkLarge(t, "input fields", query+"input N{"+numbered(n, "a#:N __a#:N a#:Query ")+"}", 3*n)
	checkLarge(t, "members", query+"union U="+strings.Repeat("Query|", n)+"Query "+numbered(n, "type A#{a:Int}")+"union V="+numbered(n, "A#|")+"Query", 1)
	checkLarge(t, "wraps", "type Query{"+numbered(n/40, "a#:"+strings.Repeat("[", 150)+"X"+strings.Repeat("!]", 150)+" ")+"}", n/40)
}

// P14.5: ways and rings of many input types and directives.
func TestLongRings(t *testing.T) {
	const n = 5000
	checkLarge(t, "way", query+numbered(n, "input A#{a:A+!}")+"input A5000{a:Int}", 0)
	checkLarge(t, "ring", query+numbered(n, "input A#{a:A+!}")+"input A5000{a:A0!}", n+1)
	checkLarge(t, "star", query+"input N{a:Int "+numbered(n, "a#:A#! ")+"}"+numbered(n, "input A#{n:N!}"), n+1)
	checkLarge(t, "self", query+numbered(n, "input A#{a:A#! b:A+}")+"scalar A5000", n)
	checkLarge(t, "way of directives", query+numbered(n, "directive@d#(x:Int@d+)on ARGUMENT_DEFINITION ")+"directive@d5000 on ARGUMENT_DEFINITION", 0)
	checkLarge(t, "ring of directives", query+numbered(n, "directive@d#(x:Int@d+)on ARGUMENT_DEFINITION ")+"directive@d5000(x:Int@d0)on ARGUMENT_DEFINITION", n+1)
	checkLarge(t, "ring of both", query+numbered(n, "directive@d#(x:S#)on SCALAR scalar S#@d+ ")+"directive@d5000(x:S0)on SCALAR", n)
}

// P14.5: many uses of directives that have many arguments and places.
func TestManyUses(t *testing.T) {
	const n = 5000
	wide := "directive@d(" + numbered(n, "a#:Int ") + "b:Int!)repeatable on " + strings.Repeat("OBJECT|", n) + "FIELD_DEFINITION "
	checkLarge(t, "uses", wide+"type Query{"+numbered(n, "f#:Int@d(b:1 a#:1)")+"}", 0)
	checkLarge(t, "wrong uses", wide+"type Query{"+numbered(n, "f#:Int@d(a#:A x:1)")+"}", 3*n)
	checkLarge(t, "uses at one spot", wide+"type Query"+numbered(n, "@d(b:1 a#:1)")+"{a:Int}", 0)
	checkLarge(t, "uses of one at one spot", "directive@d on OBJECT type Query"+strings.Repeat("@d", n)+"{a:Int}", 1)
	checkLarge(t, "uses of many at one spot", numbered(n, "directive@d# on OBJECT ")+"type Query"+numbered(n, "@d#")+numbered(n, "@e#")+"{a:Int}", n)
	checkLarge(t, "arguments of one use", wide+"type Query@d(b:1 "+numbered(n, "a#:1 ")+"){a:Int}", 0)
	checkLarge(t, "arguments of one name", "directive@d(a:Int)on OBJECT type Query@d("+strings.Repeat("a:1 ", n)+"){a:Int}", 1)
	required := "directive@d(" + numbered(n, "a#:Int! ") + ")on OBJECT|FIELD_DEFINITION "
	checkLarge(t, "required arguments", required+"type Query@d("+numbered(n, "a#:1 ")+"){"+numbered(n, "f#:Int@d(a#:1)")+"}", n)
}

// P14.5: many literals at great types: no literal goes through a type anew.
func TestManyLiterals(t *testing.T) {
	const n = 8000
	great := "input G{" + numbered(n, "a#:Int ") + "g:G h:Int!}enum E{" + numbered(n, "V# ") + "}"
	checkLarge(t, "defaults", great+"type Query{"+numbered(n, "f#(x:G={h:1 a#:2}):Int ")+"}", 0)
	checkLarge(t, "wrong defaults", great+"type Query{"+numbered(n, "f#(x:G={a#:A b:1}):Int ")+"}", 3*n)
	checkLarge(t, "defaults of the type's own", "type Query{a:Int}input G{"+numbered(n, "a#:G={a#:null} ")+"}", 0)
	checkLarge(t, "values", great+query+numbered(n, "scalar S#@d(x:{g:{h:1}h:2}e:[V#])")+"directive@d(x:G e:[E!])on SCALAR", 0)
	checkLarge(t, "defaults through many types", great+query+numbered(n, "input N#{g:G={h:1}e:E=V# n:N+={g:{h:2}}}")+"input N8000{g:G}", 0)
	checkLarge(t, "defaults of many references", great+"type Query{"+numbered(190, "f#(x:"+strings.Repeat("[", 9)+"G"+strings.Repeat("]", 9)+"=[{h:1}] y:[N#]={g:{h:1}}):Int ")+"}"+numbered(190, "input N#{g:G}"), 0)
}

// P14.5: interfaces whose faults are many: the work grows no more than with the square.
func TestManyInterfaces(t *testing.T) {
	const n = 5000
	checkLarge(t, "implementations", query+"interface I{a:Int}"+numbered(n, "type A# implements I{a:Int}"), 0)
	checkLarge(t, "fields", "interface I{"+numbered(n, "a#(x:Int):Int ")+"}type Query implements I{"+numbered(n, "a#(x:Int y:Int):Int! ")+"}", 0)
	checkLarge(t, "no fields", query+"interface I{"+numbered(n, "a#:Int ")+"}type A implements I{b:Int}", n)
	checkLarge(t, "wrong fields", "interface I{"+numbered(n, "a#(x:Int):Int ")+"}type Query implements I{"+numbered(n, "a#(x:ID y:Int!):ID ")+"}", 3*n)
	checkLarge(t, "no interfaces", "type Query implements"+numbered(n, "&I#")+"{a:Int}", n)
	checkLarge(t, "one name", "interface I{"+numbered(n, "a#:Int ")+"}type Query implements"+strings.Repeat("&I", n)+"{"+numbered(n, "a#:Int ")+"}", 1)
	const few = 200
	checkLarge(t, "square", "type Query implements"+numbered(few, "&I#")+"{"+numbered(few, "a#:Int ")+"}"+numbered(few, "interface I#{"+numbered(few, "a#:Int ")+"}"), 0)
	checkLarge(t, "square of faults", "type Query implements"+strings.Repeat("&I", few)+"{a:Int}interface I{"+numbered(few, "a#:Int ")+"}", few*few+1)
	checkLarge(t, "interfaces of interfaces", query+numbered(few, "interface I#"+" implements"+numbered(few, "&J#")+"{a:Int}")+numbered(few, "interface J#{a:Int}"), 0)
}
