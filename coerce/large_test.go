package coerce_test

import (
	"strconv"
	"strings"
	"testing"

	"pergola/api"
	"pergola/coerce"
	"pergola/tree"
)

// numbered is a text for each number below n, in which each # is the number.
func numbered(n int, text string) string {
	var out strings.Builder
	for i := range n {
		out.WriteString(strings.ReplaceAll(text, "#", strconv.Itoa(i)))
	}
	return out.String()
}

// Values of far more parts than may be: they are gone through to their ends for a misfit, but nothing is made of them.
func TestManyItems(t *testing.T) {
	const most = 1 << 20
	types := sound(t, chapter)
	nulls := many(most)
	ones := make([]api.Value, most)
	for i := range ones {
		ones[i] = object([]api.Member{{Name: "a", Value: whole(1)}})
	}
	for _, r := range []struct {
		v    api.Value
		typ  string
		want string
	}{
		{nulls, "[Int]", " wants [Int]"},
		{nulls, "S!", " wants S!"},
		{list(append(nulls.Items, text("x"))...), "[Int]", "/1048576 wants Int"},
		{list(append(nulls.Items, text("\xff"))...), "S!", " wants S"},
		{list(ones...), "[I]", " wants [I]"},
		{list(append(ones, object(nil))...), "[I!]", "/1048576/a wants Int!"},
	} {
		if got := inputText(t, types, r.v, ref(t, r.typ)); got != r.want {
			t.Errorf("at %s: got %s, want %s", r.typ, got, r.want)
		}
	}
}

// Many fields in a type and many objects in a value or a literal: no object goes through all of the type's fields, and no type is copied for each object.
func TestManyFieldsAndObjects(t *testing.T) {
	const most = 40000
	types := sound(t, "type Query {a: Int} enum E {"+numbered(most, "v# ")+"} input I {"+numbered(most, "f#: I ")+"z: Int! e: E = v39999 d: Int = 4} input P {"+numbered(most, "p#: Int = # ")+"}")
	one := value(t, `{"z":1}`)
	var all []api.Value
	for range 1000 {
		all = append(all, one)
	}
	last := value(t, `{"f39999":{"z":2},"z":1,"f7":{"z":3,"e":"v5"}}`)
	made, err := coerce.Input(types, list(append(all, last)...), ref(t, "[I]"))
	if err != nil || len(made.Items) != 1001 || written(t, made.Items[1000]) != `{"f7":{"z":3,"e":"v5","d":4},"f39999":{"z":2,"e":"v39999","d":4},"z":1,"e":"v39999","d":4}` {
		t.Error(len(made.Items), err)
	}
	for range 100000 {
		all = append(all, one)
	}
	if got := inputText(t, types, list(append(all, object(nil))...), ref(t, "[I]")); got != "/101000/z wants Int!" {
		t.Error(got)
	}
	for i := range all {
		all[i] = object(nil)
	}
	if got := inputText(t, types, list(append(all, text("x"))...), ref(t, "[P]")); got != "/101000 wants P" {
		t.Error(got)
	}
	got := literalText(t, types, lit(t, "["+strings.Repeat("{z: $v} ", 1000)+"{z: 1 f39999: {z: $v} f7: {z: 3 e: v5}}]"), ref(t, "[I]"), members(t, `{"v":2}`))
	if !strings.HasSuffix(got, `,{"f7":{"z":3,"e":"v5","d":4},"f39999":{"z":2,"e":"v39999","d":4},"z":1,"e":"v39999","d":4}]`) {
		t.Errorf("%.200s", got)
	}
	if got := literalText(t, types, lit(t, "["+strings.Repeat("v39999 $v ", 2000)+"]"), ref(t, "[E]"), members(t, `{"v":"v0"}`)); strings.Count(got, "v0") != 2000 || strings.Count(got, "v39999") != 2000 {
		t.Errorf("%.200s", got)
	}
}

// Many variables, uses of them and arguments.
func TestManyNames(t *testing.T) {
	const most = 50000
	types := sound(t, "scalar S type Query {q("+numbered(most, "a#: Int ")+"): Int s(x: S): Int}")
	doc := parse(t, "query ("+numbered(most, "$v#: Int = # ")+") {s(x: ["+numbered(most, "$v# ")+"])}")
	given := object(nil)
	for i := range most {
		given.Fields = append(given.Fields, api.Member{Name: "v" + strconv.Itoa(most-1-i), Value: whole(int64(i))})
	}
	vars, faults := coerce.Variables(types, doc, 0, given)
	if len(faults) > 0 || len(vars) != most || vars[0].Name != "v0" || vars[0].Value.Int != most-1 {
		t.Fatal(len(vars), len(faults))
	}
	defaults, faults := coerce.Variables(types, doc, 0, api.Value{})
	if len(faults) > 0 || len(defaults) != most || defaults[7].Value.Int != 7 {
		t.Fatal(len(defaults), len(faults))
	}
	args := argsOf(t, "("+numbered(most, "a#: $v# ")+")")
	made, errno := coerce.Arguments(types, fieldArgs(t, types, "q"), args, vars)
	if errno != api.OK || len(made) != most || made[most-1].Value.Int != 0 || made[0].Value.Int != most-1 {
		t.Error(len(made), errno)
	}
	for i := range given.Fields {
		given.Fields[i].Value = text("x")
	}
	if made, faults := coerce.Variables(types, doc, 0, given); len(made) > 0 || len(faults) != most {
		t.Error(len(made), len(faults))
	}
	if got := literalText(t, types, lit(t, "{"+numbered(most, "a#: $w# ")+"}"), ref(t, "S"), vars); got != "{}" {
		t.Errorf("%.200s", got)
	}
	if got := literalText(t, types, lit(t, "["+numbered(4095, "$v# ")+"]"), ref(t, "S"), vars); strings.Count(got, ",") != 4094 {
		t.Errorf("%.200s", got)
	}
}

// Types of great size that many literals and defaults stand at: none is copied for each of them.
func TestManyLiteralsAtGreatTypes(t *testing.T) {
	const most = 100000
	types := sound(t, "directive @d repeatable on SCALAR scalar S "+strings.Repeat("@d ", most)+" enum E {"+numbered(most, "v# ")+"} input P {"+numbered(2000, "p#: E = v# ")+"} type Query {q(e: E = v7 p: P s: [S] = [1 2]): Int r(x: [E]): Int}")
	if got := literalText(t, types, lit(t, "["+strings.Repeat("1 $v ", 2000)+"]"), ref(t, "[S]"), members(t, `{"v":2}`)); strings.Count(got, "1,2") != 2000 {
		t.Errorf("%.200s", got)
	}
	want := strings.ReplaceAll("{"+strings.TrimSuffix(numbered(2000, `"p#":"v#",`), ",")+"}", " ", "")
	if got := inputText(t, types, object(nil), ref(t, "P")); got != want {
		t.Errorf("%.200s", got)
	}
	if got := literalText(t, types, lit(t, "[{p0: $v p1999: $v}]"), ref(t, "[P]"), nil); got != "["+want+"]" {
		t.Errorf("%.200s", got)
	}
	checkArguments(t, types, fieldArgs(t, types, "q"), []argumentRow{{"(p: {})", "", `{"e":"v7","p":` + want + `,"s":[1,2]}`}})
	doc := parse(t, "query ("+numbered(most, "$v#: E = v# ")+") {r(x: ["+numbered(most, "$v# ")+"])}")
	if made, faults := coerce.Variables(types, doc, 0, api.Value{}); len(made) != most || len(faults) > 0 || made[most-1].Value.Text != "v99999" {
		t.Error(len(made), len(faults))
	}
}

// A long way of defaults, each of a type of its own: of 1000 types deep there is a value, of 3000 there is none.
func TestLongWayOfDefaults(t *testing.T) {
	var src strings.Builder
	for i := range 3000 {
		src.WriteString("input W" + strconv.Itoa(i) + " {x: Int = 1 w: W" + strconv.Itoa(i+1) + " = {}} ")
	}
	types := sound(t, src.String()+"input W3000 {x: Int} type Query {a: Int}")
	made, err := coerce.Input(types, object(nil), ref(t, "W1000"))
	if err != nil || tree.Count(made) != 4001 {
		t.Error(tree.Count(made), err)
	}
	if got := inputText(t, types, object(nil), ref(t, "W0")); got != " wants W0" {
		t.Error(got)
	}
	if got := literalText(t, types, lit(t, "{w: {w: {x: $v}}}"), ref(t, "W0"), nil); got != fails {
		t.Errorf("%.200s", got)
	}
	if made, has, errno := coerce.Literal(types, lit(t, "{w: {w: {x: $v}}}"), ref(t, "W1000"), nil); !has || errno != api.OK || tree.Count(made) != 4001 {
		t.Error(has, errno)
	}
}

// nest is a value with so many others about it, lists or objects.
func nest(v api.Value, levels int, name string) api.Value {
	for range levels {
		if name == "" {
			v = list(v)
		} else {
			v = object([]api.Member{{Name: name, Value: v}})
		}
	}
	return v
}

// R1: values, literals and references that are nested as deep as may be.
func TestNestedDeep(t *testing.T) {
	const levels = 1<<16 - 1
	types := sound(t, chapter+" input D {d: D l: [D]}")
	path := strings.Repeat("/d", levels)
	marks := func(name, marks string) api.TypeRef {
		return api.TypeRef{Name: name, Wrap: strings.Repeat(marks, levels)}
	}
	for _, r := range []struct {
		v    api.Value
		want api.TypeRef
		text string
	}{
		{nest(api.Value{}, levels, ""), api.TypeRef{Name: "S"}, " wants S"},
		{nest(api.Value{}, levels, "d"), api.TypeRef{Name: "S"}, " wants S"},
		{nest(api.Value{}, levels, "d"), api.TypeRef{Name: "D"}, " wants D"},
		{nest(whole(1), levels, "d"), api.TypeRef{Name: "D"}, path + " wants D"},
		{nest(text("x"), levels, ""), marks("Int", "]"), strings.Repeat("/0", levels) + " wants Int"},
		{text("x"), marks("Int", "!]"), " wants Int"},
		{nest(whole(1), 4095, ""), api.TypeRef{Name: "Int", Wrap: strings.Repeat("]", 4095)}, strings.Repeat("[", 4095) + "1" + strings.Repeat("]", 4095)},
		{whole(1), api.TypeRef{Name: "Int", Wrap: strings.Repeat("]", 4095)}, strings.Repeat("[", 4095) + "1" + strings.Repeat("]", 4095)},
	} {
		if got := inputText(t, types, r.v, r.want); got != r.text {
			t.Errorf("at %s with %d marks: %.100s", r.want.Name, len(r.want.Wrap), got)
		}
	}
	if _, err := coerce.Input(types, whole(1), marks("Int", "]")); err == nil {
		t.Error("a value of too many parts")
	}
	v := api.Lit{Kind: api.LitVar, Text: "v"}
	for range levels {
		v = api.Lit{Kind: api.LitList, Items: []api.Lit{v}}
	}
	for _, want := range []api.TypeRef{{Name: "S"}, {Name: "D"}, {Name: "Int"}, marks("Int", "]")} {
		if _, has, errno := coerce.Literal(types, v, want, nil); has || errno != api.ErrArgument {
			t.Error(want.Name, has, errno)
		}
	}
}
