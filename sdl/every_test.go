package sdl_test

import (
	"math/rand"
	"strings"
	"testing"

	"pergola/api"
	"pergola/lex"
	"pergola/sdl"
)

// everySource hands on the sources of at most length pieces behind a beginning; one with a fault that isn't at its end isn't made longer, for what stands behind a fault isn't looked at.
func everySource(t *testing.T, begin string, pieces []string, length, depth int) {
	t.Helper()
	var grow func(src string, room int)
	grow = func(src string, room int) {
		if !checkSource(t, src, depth) || room == 0 || t.Failed() {
			return
		}
		for _, piece := range pieces {
			grow(src+" "+piece, room-1)
		}
	}
	grow(begin, length)
}

// All short sources of some pieces: Parse answers what the model does.
func TestEveryDocument(t *testing.T) {
	all := strings.Fields(`a schema scalar type interface union enum input directive extend implements repeatable on query mutation subscription FIELD { } ( ) [ ] $ : = @ ! & | ... 1 1.5 "s" """k""" null true false ?`)
	for depth := range 3 {
		everySource(t, "", all, 4, depth)
	}
	everySource(t, "extend", all, 3, 3)
	everySource(t, `"s"`, all, 3, 3)
}

func TestEveryKindOfType(t *testing.T) {
	for _, begin := range []string{"", "extend "} {
		everySource(t, begin+"type T", strings.Fields(`a : { } ( ) @ & implements type "s"`), 6, 2)
		everySource(t, begin+"interface T", strings.Fields(`a : { } @ & implements`), 6, 1)
		everySource(t, begin+"union U", strings.Fields(`a = | & @ { type "s"`), 7, 1)
		everySource(t, begin+"enum E", strings.Fields(`a true { } @ = : "s" enum`), 6, 1)
		everySource(t, begin+"input I", strings.Fields(`a : { } = @ 1 "s" input`), 6, 1)
		everySource(t, begin+"schema", strings.Fields(`a query mutation : { } @ "s" schema`), 6, 1)
		everySource(t, begin+"scalar S", strings.Fields(`a @ ( ) : 1 { = "s" scalar`), 7, 1)
	}
}

func TestEveryField(t *testing.T) {
	everySource(t, "type T{a", strings.Fields(`a : ( ) } [ ] ! = @ "s"`), 7, 3)
	everySource(t, "type T{a(b:B", strings.Fields(`a : ( ) = @ 1 "s" [ ]`), 6, 3)
	everySource(t, "input I{a:A", strings.Fields(`a : } = @ { 1 "s" [ ] $`), 6, 3)
}

func TestEveryDirective(t *testing.T) {
	everySource(t, "directive", strings.Fields(`a @ ( ) : repeatable on | FIELD`), 8, 1)
	everySource(t, "directive @d on", strings.Fields(`a on | & FIELD QUERY directive "s" @ {`), 6, 1)
}

// spoil holds sources with one token put in, changed or dropped, and beginnings of the source, against the model.
func spoil(t *testing.T, words, pieces []string, depth int) {
	t.Helper()
	for i := range words {
		ahead, behind := strings.Join(words[:i], " "), strings.Join(words[i+1:], " ")
		for _, piece := range pieces {
			checkSource(t, ahead+" "+piece+"\n"+words[i]+" "+behind, depth)
			checkSource(t, ahead+" "+piece+" "+behind, depth)
		}
		checkSource(t, ahead, depth)
	}
}

// Right sources, spoilt at every token.
func TestSpoiltSources(t *testing.T) {
	pieces := append(strings.Fields(`a on type extend implements true FIELD 1 2.5 "s" """k""" [ ] { } ( ) : ! $ @ = & | ... ?`), "")
	for _, src := range []string{
		`"n" type T implements & A & B @ d ( x : [ 1 ] ) { "m" a ( """l""" b : [ B ! ] ! = { c : null } @ e f : F ) : [ A ] @ g h : H } scalar S @ d`,
		`extend interface I implements A { a : A } union U @ d = | A | B extend union U = C enum E @ d { "n" a @ e b } extend enum E { c }`,
		`schema @ d { query : Q mutation : M } extend schema @ e extend schema { subscription : S } input I @ d { "n" a : [ A ] = [ 1 { } ] @ e b : B } extend input I @ f`,
		`"n" directive @ d ( a : A = 1 @ e ) repeatable on | FIELD | ENUM directive @ e on QUERY extend scalar S @ f type T`,
	} {
		for depth := 1; depth < 6; depth += 2 {
			spoil(t, strings.Fields(src), pieces, depth)
		}
	}
}

// Made sources, spoilt at some tokens.
func TestSpoiltMadeSources(t *testing.T) {
	r := rand.New(rand.NewSource(101))
	for seed := range int64(200) {
		_, src, most := makeDefs(seed, 40)
		var words []string
		for _, token := range lex.Tokens([]byte(src)) {
			words = append(words, token.Text)
		}
		checkSource(t, src, most)
		for range 30 {
			i, j := r.Intn(len(words)), r.Intn(len(words))
			swapped := append([]string(nil), words...)
			swapped[i], swapped[j] = swapped[j], swapped[i]
			checkSource(t, strings.Join(swapped, " "), most-r.Intn(2))
			checkSource(t, strings.Join(words[:i], " ")+" "+words[j]+" "+strings.Join(words[i:], " "), most+r.Intn(2))
			checkSource(t, strings.Join(words[:i], "\n")+" "+strings.Join(words[min(i+1, len(words)):], " "), most)
		}
	}
}

// Sources by chance, of pieces and of bytes.
func TestSourcesByChance(t *testing.T) {
	r := rand.New(rand.NewSource(1010))
	pieces := []string{"a", "b:B", "{a:A}", "{a:A", "}", "type T", "extend type T", "interface I", "implements A", "implements&A&B", "union U", "=A|B", "=|A", "enum E", "{a b}", "input I", "{a:A=1}", "schema", "extend schema", "{query:Q}", "scalar S", "@d", "@d(x:1)", "(x:[X!]={y:1})", "directive @d", "repeatable", "on FIELD", "|QUERY", "\"n\"", "\"\"\"k\"\"\"", "extend", "\r\n", "# c\n", "1"}
	for range 40000 {
		checkSource(t, pick(r, pieces, 12), r.Intn(5))
	}
	for range 10000 {
		checkSource(t, "type T{a:A "+pick(r, []string{"a:A", "\"n\"b:[B]", "@d", "c(", ")", ":C", "x:X=1", "\"m\"", "}", "e"}, 9)+"}", 2+r.Intn(3))
	}
	const odd = "a1\"[]{}():@$!&|. \n\\#\x80\x00-="
	for range 20000 {
		src := make([]byte, r.Intn(12))
		for i := range src {
			src[i] = odd[r.Intn(len(odd))]
		}
		checkSource(t, string(src), r.Intn(3))
		checkSource(t, "type T"+string(src), r.Intn(3))
	}
}

// Long sources take no more than their length of time, and nothing is lost of them.
func TestLongSources(t *testing.T) {
	const n = 50000
	parse := func(src string) []api.SysDef {
		t.Helper()
		defs, fault := sdl.Parse([]byte(src), 200)
		if fault.Kind != api.OK || len(defs) == 0 {
			t.Fatal(src[:20], fault)
		}
		return defs
	}
	if defs := parse(strings.Repeat("scalar S ", n)); len(defs) != n || defs[n-1].Pos != (api.Pos{Line: 1, Col: 9*n - 1}) {
		t.Error("definitions:", len(defs), defs[len(defs)-1])
	}
	if fields := parse("type T{" + strings.Repeat("a(b:B):A@d ", n) + "}")[0].Fields; len(fields) != n || fields[n-1].Pos != (api.Pos{Line: 1, Col: 8 + 11*(n-1)}) {
		t.Error("fields:", len(fields), fields[len(fields)-1])
	}
	if args := parse("type T{a(" + strings.Repeat("b:B\n", n) + "):A}")[0].Fields[0].Args; len(args) != n || args[n-1].Pos != (api.Pos{Line: n, Col: 1}) {
		t.Error("arguments:", len(args), args[len(args)-1])
	}
	if values := parse("enum E{" + strings.Repeat("a ", n) + "}")[0].Values; len(values) != n {
		t.Error("cases:", len(values))
	}
	if inputs := parse("input I{" + strings.Repeat("a:A=[]", n) + "}")[0].Inputs; len(inputs) != n {
		t.Error("input fields:", len(inputs))
	}
	if roots := parse("schema{" + strings.Repeat("query:Q ", n) + "}")[0].Roots; len(roots) != n {
		t.Error("roots:", len(roots))
	}
	if ifaces := parse("type T implements" + strings.Repeat("&A", n))[0].Ifaces; len(ifaces) != n || ifaces[n-1].Pos != (api.Pos{Line: 1, Col: 17 + 2*n}) {
		t.Error("interfaces:", len(ifaces), ifaces[len(ifaces)-1])
	}
	if members := parse("union U=" + strings.Repeat("|A", n))[0].Members; len(members) != n {
		t.Error("members:", len(members))
	}
	if listed := parse("directive @d on" + strings.Repeat("|FIELD", n))[0].Places; len(listed) != n {
		t.Error("places:", len(listed))
	}
	same(t, "left open", tell([]byte("enum E{"+strings.Repeat("a ", n)), 9), "syntax 1:"+col(2*n+8))
	same(t, "ended too early", tell([]byte("union U="+strings.Repeat("A|", n)), 9), "syntax 1:"+col(2*n+9))
}
