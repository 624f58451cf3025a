package typesys_test

import (
	"reflect"
	"testing"

	"pergola/api"
)

// wraps are marks behind a name that make references fit or not.
var wraps = []string{"", "!", "]", "]!", "!]"}

// hold asks two type systems all that can be asked of the names.
func hold(t testing.TB, what string, got, want system, names []string) {
	t.Helper()
	check := func(call string, got, want any) {
		t.Helper()
		if got != want {
			t.Fatalf("%s: %s: got %v, want %v", what, call, got, want)
		}
	}
	deep := func(call string, got, want any) {
		t.Helper()
		if !reflect.DeepEqual(even(got), even(want)) {
			t.Fatalf("%s: %s: got\n%v\nwant\n%v", what, call, got, want)
		}
	}
	check("Names", told(got.Names()), told(want.Names()))
	check("Directives", told(got.Directives()), told(want.Directives()))
	deep("Schema", got.Schema(), want.Schema())
	for op := range api.DefKind(5) {
		check("Root", got.Root(op), want.Root(op))
	}
	for _, a := range names {
		holdOne(a, got, want, check, deep)
		for _, b := range names {
			field, ok := got.Field(a, b)
			wantField, wantOk := want.Field(a, b)
			deep("Field "+a+" "+b, field, wantField)
			check("Field "+a+" "+b, ok, wantOk)
			check("Meet "+a+" "+b, got.Meet(a, b), want.Meet(a, b))
			check("Within "+a+" "+b, got.Within(a, b), want.Within(a, b))
			wrap, other := wraps[len(a)%len(wraps)], wraps[len(b)%len(wraps)]
			check("Fits "+a+wrap+" "+b+other, got.Fits(ref(a, wrap), ref(b, other)), want.Fits(ref(a, wrap), ref(b, other)))
		}
	}
}

// holdOne asks all that can be asked of one name.
func holdOne(name string, got, want system, check, deep func(string, any, any)) {
	def, ok := got.Type(name)
	wantDef, wantOk := want.Type(name)
	deep("Type "+name, def, wantDef)
	check("Type "+name, ok, wantOk)
	def, ok = got.Directive(name)
	wantDef, wantOk = want.Directive(name)
	deep("Directive "+name, def, wantDef)
	check("Directive "+name, ok, wantOk)
	check("Possible "+name, told(got.Possible(name)), told(want.Possible(name)))
	check("Input "+name, got.Input(name), want.Input(name))
	check("Output "+name, got.Output(name), want.Output(name))
}
