package query_test

import (
	"math/rand"
	"strings"
	"testing"

	"pergola/api"
	"pergola/lex"
	"pergola/query"
)

// everySource hands on the sources of at most length pieces behind a beginning; one with a fault that isn't at its end isn't made longer, for what stands behind a fault isn't looked at.
func everySource(t *testing.T, begin string, pieces []string, length, depth int) {
	t.Helper()
	var grow func(src string, room int)
	grow = func(src string, room int) {
		if !checkSource(t, src, depth) || room == 0 || t.Failed() {
			return
		}
		for _, piece := range pieces {
			grow(src+" "+piece, room-1)
		}
	}
	grow(begin, length)
}

// All short sources of some pieces: Parse answers what the model does.
func TestEveryDocument(t *testing.T) {
	all := []string{"a", "on", "query", "mutation", "subscription", "fragment", "{", "}", "(", ")", "[", "]", "$", ":", "=", "@", "!", "...", "1", "1.5", "\"s\"", "\"\"\"k\"\"\"", "null", "|", "&", "?"}
	for depth := range 4 {
		everySource(t, "", all, 4, depth)
	}
	everySource(t, "", []string{"a", "on", "query", "fragment", "{", "}", "@"}, 7, 2)
}

func TestEverySelection(t *testing.T) {
	everySource(t, "{", []string{"a", "on", "{", "}", ":", "...", "@", "?"}, 7, 3)
	everySource(t, "{a", []string{"a", "{", "}", ":", "...", "@"}, 7, 2)
	everySource(t, "{a:b", []string{"a", "(", ")", ":", "{", "}", "[", "]", "$", "1"}, 6, 3)
}

func TestEveryVariable(t *testing.T) {
	everySource(t, "query(", []string{"a", "$", ":", "=", "@", ")", "[", "]", "!", "{", "1"}, 11, 2)
	everySource(t, "query($a:T", []string{"a", "$", ":", "=", "@", "(", ")", "[", "]", "{", "}"}, 8, 3)
}

// spoil holds sources with one token put in, changed or dropped, and beginnings of the source, against the model.
func spoil(t *testing.T, words, pieces []string, depth int) {
	t.Helper()
	for i := range words {
		ahead, behind := strings.Join(words[:i], " "), strings.Join(words[i+1:], " ")
		for _, piece := range pieces {
			checkSource(t, ahead+" "+piece+"\n"+words[i]+" "+behind, depth)
			checkSource(t, ahead+" "+piece+" "+behind, depth)
		}
		checkSource(t, ahead, depth)
	}
}

// Right sources, spoilt at every token.
func TestSpoiltSources(t *testing.T) {
	pieces := []string{"a", "on", "query", "fragment", "true", "1", "2.5", "\"s\"", "\"\"\"k\"\"\"", "[", "]", "{", "}", "(", ")", ":", "!", "$", "@", "=", "...", "?", ""}
	for _, src := range []string{
		"query Q ( $ a : [ T ! ] ! = [ 1 { b : null } ] @ d ( x : 1 ) $ c : U ) @ e ( y : $ a ) { f }",
		"{ a : b ( x : $ v y : [ { } ] ) @ d { c ... F @ e ... on T @ f { g } ... @ h { i } ... { j } } k }",
		"fragment F on T @ d ( x : { y : 1 } ) { a { b } } mutation { c } subscription S { d } { e }",
	} {
		for depth := 2; depth < 7; depth += 2 {
			spoil(t, strings.Fields(src), pieces, depth)
		}
	}
}

// Made sources, spoilt at some tokens.
func TestSpoiltMadeSources(t *testing.T) {
	r := rand.New(rand.NewSource(99))
	for seed := range int64(200) {
		_, src, most := makeDocument(seed, 40)
		var words []string
		for _, token := range lex.Tokens([]byte(src)) {
			words = append(words, token.Text)
		}
		checkSource(t, src, most)
		for range 30 {
			i, j := r.Intn(len(words)), r.Intn(len(words))
			swapped := append([]string(nil), words...)
			swapped[i], swapped[j] = swapped[j], swapped[i]
			checkSource(t, strings.Join(swapped, " "), most-r.Intn(2))
			checkSource(t, strings.Join(words[:i], " ")+" "+words[j]+" "+strings.Join(words[i:], " "), most+r.Intn(2))
			checkSource(t, strings.Join(words[:i], "\n")+" "+strings.Join(words[min(i+1, len(words)):], " "), most)
		}
	}
}

// Sources by chance, of pieces and of bytes.
func TestSourcesByChance(t *testing.T) {
	r := rand.New(rand.NewSource(999))
	pieces := []string{"a", "b:", "{a}", "{a", "}", "query", "query Q", "mutation M($v:T=1)", "fragment F on T", "...", "...F", "...on T{", "...{", "@d", "@d(x:$v)", "(x:1)", "($v:[T!]!)", "a(x:[1 {b:$c}])", "on", "{", "}}", "\r\n", "# c\n", "1", "\"s\""}
	for range 30000 {
		checkSource(t, pick(r, pieces, 12), r.Intn(5))
	}
	for range 10000 {
		checkSource(t, "{"+pick(r, pieces, 12)+"}", 3+r.Intn(3))
	}
	const odd = "a1\"[]{}():@$!. \n\\#\x80\x00-="
	for range 20000 {
		src := make([]byte, r.Intn(12))
		for i := range src {
			src[i] = odd[r.Intn(len(odd))]
		}
		checkSource(t, string(src), r.Intn(3))
	}
}

// Long sources take no more than their length of time, and nothing is lost of them.
func TestLongSources(t *testing.T) {
	const n = 50000
	parse := func(src string) []api.Def {
		t.Helper()
		doc, fault := query.Parse([]byte(src), 200)
		if fault.Kind != api.OK || len(doc.Defs) == 0 {
			t.Fatal(src[:20], fault)
		}
		return doc.Defs
	}
	if defs := parse(strings.Repeat("{a}", n)); len(defs) != n || defs[n-1].Pos != (api.Pos{Line: 1, Col: 3*n - 2}) {
		t.Error("definitions:", len(defs), defs[len(defs)-1])
	}
	if sels := parse("{" + strings.Repeat("a:b(x:1)@d ", n) + "}")[0].Sels; len(sels) != n || sels[n-1].Pos != (api.Pos{Line: 1, Col: 2 + 11*(n-1)}) {
		t.Error("fields:", len(sels), sels[len(sels)-1])
	}
	if vars := parse("query(" + strings.Repeat("$a:T\n", n) + "){b}")[0].Vars; len(vars) != n || vars[n-1].Pos != (api.Pos{Line: n, Col: 1}) {
		t.Error("variables:", len(vars), vars[len(vars)-1])
	}
	if dirs := parse("query" + strings.Repeat("@a", n) + "{b}")[0].Dirs; len(dirs) != n {
		t.Error("directives:", len(dirs))
	}
	if sels := parse("{" + strings.Repeat("...{...on T{a}}", n) + "}")[0].Sels; len(sels) != n || len(sels[n-1].Sels) != 1 || len(sels[n-1].Sels[0].Sels) != 1 {
		t.Error("inline fragments:", len(sels))
	}
	deep := "{" + strings.Repeat(strings.Repeat("a{", 199)+"b"+strings.Repeat("}", 199), 500) + "}"
	if sels := parse(deep)[0].Sels; len(sels) != 500 {
		t.Error("deep fields:", len(sels))
	}
	want := "syntax 1:" + col(2*n+2)
	same(t, "left open", tell([]byte("{"+strings.Repeat("a ", n)), 9), want)
}
