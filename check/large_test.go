package check_test

import (
	"runtime/debug"
	"strconv"
	"strings"
	"testing"

	"pergola/api"
	"pergola/check"
)

// P21.3: fragments that are spread often; there are far more ways through them than could be gone.
func TestDeepOfFragmentsSpreadOften(t *testing.T) {
	end := "fragment F50 on Query {a}"
	for _, r := range []struct {
		name, doc, want string
	}{
		{"twice at the top", "{...F0}" + numbered(50, "fragment F# on Query {...F+ ...F+}") + end, "1"},
		{"twice beneath a field", "{...F0}" + numbered(50, "fragment F# on Query {q {...F+ ...F+}}") + end, "51"},
		{"at two depths", "{...F0}" + numbered(50, "fragment F# on Query {...F+ q {...F+}}") + end, "51"},
		{"at three depths", "{q {...F0} ...F0}" + numbered(50, "fragment F# on Query {q {...F+ q {...F+}} ...F+}") + end, "102"},
		{"backward", "{...F50}" + numbered(50, "fragment F+ on Query {q {...F#} ... {...F#}}") + "fragment F0 on Query {a}", "51"},
		{"a stray one at the end", "{...F0}" + numbered(50, "fragment F# on Query {...F+ q {...F+}}"), "-"},
		{"back to the beginning", "{...F0}" + numbered(50, "fragment F# on Query {...F+ q {...F+}}") + "fragment F50 on Query {a ...F0}", "-"},
		{"each to each", "{...F0}" + numbered(50, "fragment F# on Query {"+numbered(50, "...F# ")+"}"), "-"},
		{"each to all behind it", "{...F0}" + allBehind(50) + end, "51"},
	} {
		if got := depthText(check.Deep(parse(t, r.doc), 0)); got != r.want {
			t.Errorf("%s: got %s, want %s", r.name, got, r.want)
		}
	}
}

// allBehind is n fragments, each of which spreads all behind it, and one of the number n, beneath a field.
func allBehind(n int) string {
	out := ""
	for i := range n {
		out += "fragment F" + strconv.Itoa(i) + " on Query {q {"
		for k := i + 1; k <= n; k++ {
			out += "...F" + strconv.Itoa(k) + " "
		}
		out += "}}"
	}
	return out
}

// inARow is a document of n fragments, each of which spreads the next one beneath a field, and the last one by itself; an operation spreads the first.
func inARow(n int, last api.Sel) api.Document {
	doc := api.Document{Defs: []api.Def{{Kind: api.DefQuery, Sels: []api.Sel{spreadOf("0")}}}}
	for i := range n {
		sel := last
		if i+1 < n {
			sel = fieldOf(spreadOf(strconv.Itoa(i + 1)))
		}
		doc.Defs = append(doc.Defs, api.Def{Kind: api.DefFragment, Name: strconv.Itoa(i), Sels: []api.Sel{sel}})
	}
	return doc
}

// P21.3: a row of fragments as long as a document may be: no call is nested as deep as it is long.
func TestDeepOfLongRows(t *testing.T) {
	defer debug.SetMaxStack(debug.SetMaxStack(1 << 24))
	const many = 300000
	for _, r := range []struct {
		name       string
		last       api.Sel
		want, next string
	}{
		{"a row", fieldOf(), "300000", "300000"},
		{"a ring", fieldOf(spreadOf("0")), "-", "-"},
		{"a stray spread at the end", spreadOf("X"), "-", "-"},
		{"a ring at the end", fieldOf(spreadOf("299999")), "-", "-"},
	} {
		doc := inARow(many, r.last)
		if got := depthText(check.Deep(doc, 0)); got != r.want {
			t.Errorf("%s: got %s, want %s", r.name, got, r.want)
		}
		if got := depthText(check.Deep(doc, 1)); got != r.next {
			t.Errorf("%s from the first fragment: got %s, want %s", r.name, got, r.next)
		}
	}
}

// P21.3: many fields, spreads and fragments in one definition.
func TestDeepOfManyParts(t *testing.T) {
	const many = 100000
	for _, r := range []row{
		{"{" + strings.Repeat("a ", many) + "}", "1"},
		{"{" + strings.Repeat("a {b {c}} ", many) + "}", "3"},
		{"{" + strings.Repeat("q {...F} ", many) + "} fragment F on Query {" + strings.Repeat("q {a} ", many) + "}", "3"},
		{"{" + numbered(many, "...F# ") + "}" + numbered(many, "fragment F# on Query {a {b}}"), "2"},
		{"{...F} " + strings.Repeat("fragment F on Query {a} ", many), "1"},
	} {
		if got := depthText(check.Deep(parse(t, r.doc), 0)); got != r.want {
			t.Errorf("%.100s: got %s, want %s", r.doc, got, r.want)
		}
	}
}

// P21.3: All is not lost over fragments that are spread often, whether they are right or wrong.
func TestAllOfFragmentsSpreadOften(t *testing.T) {
	const first = "query ($v: Int!) {...F0}"
	twice := numbered(50, "fragment F# on Query {...F+ ...F+}")
	deeper := numbered(50, "fragment F# on Query {q {...F+} ...F+}")
	types := sound(t, zoo)
	for _, r := range []struct{ name, doc, want string }{
		{"twice", first + twice + "fragment F50 on Query {f(n: $v)}", ""},
		{"deeper", first + deeper + "fragment F50 on Query {f(n: $v)}", ""},
		{"a field that is not known", first + deeper + "\nfragment F50 on Query {z f(n: $v)}", "FieldNone 2:24"},
		{"a value that doesn't fit", "{...F0}" + deeper + "\nfragment F50 on Query {f(n: A)}", "Value 2:29"},
		{"fields that clash", first + deeper + "\nfragment F50 on Query {f(n: $v) f: a}", "Overlap 2:24 2:33"},
		{"no variable", "{...F0}" + deeper + "\nfragment F50 on Query {f(n: $v)}", "VarNone 2:29 1:1"},
		{"a stray spread", "{...F0}" + twice + "\nfragment F50 on Query {...X}", "FragNone 2:24"},
		{"a subscription of two fields", "subscription {...F0}" + strings.ReplaceAll(twice, "Query", "Feed") + "\nfragment F50 on Feed {a b}", "OpSingle 1:1"},
		{"each to all behind it", "{...F0}" + allBehind(50) + "fragment F50 on Query {a}", ""},
	} {
		if got := told(check.All(types, parse(t, r.doc))); got != r.want {
			t.Errorf("%s: got %.300s, want %s", r.name, got, r.want)
		}
	}
	ring := check.All(types, parse(t, "{...F0}"+deeper+"fragment F50 on Query {a ...F0}"))
	if len(ring) != 101 || ring[0].Kind != api.ErrFragRing || ring[100].Kind != api.ErrFragRing {
		t.Error("a ring:", len(ring))
	}
}

// P21.3: All over documents as great as a request may be.
func TestAllOfGreatDocuments(t *testing.T) {
	const many = 30000
	types := sound(t, zoo)
	for _, r := range []struct {
		name, doc string
		want      int
	}{
		{"right", "query ($v: Int!) {" + strings.Repeat("a q {a f(n: $v)} ...F ", many) + "} fragment F on Query {a}", 0},
		{"in a row", "{...F0}" + numbered(many, "fragment F# on Query {...F+ ...F+}") + "fragment F30000 on Query {a}", 0},
		{"wrong", "{" + numbered(many, "z# b#: f @z ") + "}", 3 * many},
		{"wrong in each group", "{" + numbered(many, "a#(x: $v) ...G# z#: q ") + "}", 4 * many},
	} {
		if got := check.All(types, parse(t, r.doc)); len(got) != r.want {
			t.Errorf("%s: got %d faults, want %d", r.name, len(got), r.want)
		}
	}
}
