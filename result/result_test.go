package result_test

import (
	"math"
	"slices"
	"strings"
	"testing"

	"pergola/api"
	"pergola/typesys"
)

type leafRow struct {
	v    api.Value
	want string
}

func checkLeaf(t *testing.T, types *typesys.Types, name string, rows []leafRow) {
	t.Helper()
	for _, row := range rows {
		if got := leafText(t, types, name, row.v); got != row.want {
			t.Errorf("Leaf(%s, %v): got %s, want %s", name, row.v, got, row.want)
		}
	}
}

// refused are rows of values that a type doesn't let out.
func refused(all ...api.Value) []leafRow {
	var rows []leafRow
	for _, v := range all {
		rows = append(rows, leafRow{v, "ErrResult"})
	}
	return rows
}

// composites are values of no built-in scalar and no enum, of whatever parts.
func composites() []api.Value {
	return []api.Value{list(), list(whole(1)), list(text("A")), object(), object(member("A", whole(1))), handle("T"), handle("Int"), {Kind: api.KindHandle}}
}

var (
	minusNought = math.Copysign(0, -1)
	isNaN       = float(math.NaN())
	infinite    = float(math.Inf(1))
	downwards   = float(math.Inf(-1))
)

// P23.1: null, and what counts as null.
func TestLeafNull(t *testing.T) {
	types := sound(t, chapter)
	for _, name := range []string{"Int", "Float", "String", "Boolean", "ID", "E", "S", "__TypeKind"} {
		for _, kind := range []api.Kind{api.KindNull, -1, 8, 9, math.MaxInt, math.MinInt} {
			checkLeaf(t, types, name, []leafRow{{api.Value{Kind: kind}, "null"}, {noisy(api.Value{Kind: kind}), "null"}})
		}
	}
}

// P23.1: types that are no scalars and no enums, and names of none, whatever the value.
func TestLeafOfNoLeafType(t *testing.T) {
	types := sound(t, chapter+" input P {a: Int} directive @d on FIELD")
	for _, name := range []string{"Query", "N", "T", "U", "P", "__Type", "Nope", "", "int", "d", "@d", "A", "E.A", "Int!", "[Int]", " Int", "S\x00", "\xff"} {
		for _, v := range []api.Value{{}, {Kind: 9}, whole(7), float(7), truth(true), text("A"), list(), object(), handle("T"), isNaN} {
			checkLeaf(t, types, name, []leafRow{{v, "ErrKind"}})
		}
	}
}

// P23.1: Int.
func TestLeafInt(t *testing.T) {
	types := sound(t, chapter)
	checkLeaf(t, types, "Int", []leafRow{
		{whole(7), "7"}, {whole(0), "0"}, {whole(-1), "-1"}, {whole(math.MaxInt32), "2147483647"}, {whole(math.MinInt32), "-2147483648"},
		{float(7), "7"}, {float(0), "0"}, {float(minusNought), "0"}, {float(-1), "-1"}, {float(math.MaxInt32), "2147483647"}, {float(math.MinInt32), "-2147483648"},
	})
	checkLeaf(t, types, "Int", refused(whole(math.MaxInt32+1), whole(math.MinInt32-1), whole(math.MaxInt64), whole(math.MinInt64), whole(1<<32)))
	checkLeaf(t, types, "Int", refused(float(math.MaxInt32+1), float(math.MinInt32-1), float(7.5), float(-0.5), float(math.MaxInt32-0.5), float(math.Nextafter(7, 8)), float(5e-324), float(1<<32), float(-1<<63), float(1<<63), float(1e300), isNaN, infinite, downwards))
	checkLeaf(t, types, "Int", refused(truth(true), truth(false), text("7"), text(""), text("7.0")))
	checkLeaf(t, types, "Int", refused(composites()...))
}

// P23.1: Float.
func TestLeafFloat(t *testing.T) {
	types := sound(t, chapter)
	checkLeaf(t, types, "Float", []leafRow{
		{float(7), "7.0"}, {float(-7.5), "-7.5"}, {float(0), "0.0"}, {float(minusNought), "-0.0"}, {float(math.MaxFloat64), "1.7976931348623157e308"}, {float(5e-324), "5e-324"},
		{whole(7), "7.0"}, {whole(0), "0.0"}, {whole(-3), "-3.0"}, {whole(1 << 31), "2147483648.0"}, {whole(1 << 53), "9007199254740992.0"}, {whole(1<<53 + 2), "9007199254740994.0"}, {whole(math.MinInt64), "-9223372036854776000.0"}, {whole(1 << 62), "4611686018427388000.0"},
	})
	checkLeaf(t, types, "Float", refused(whole(1<<53+1), whole(-1<<53-1), whole(math.MaxInt64), whole(math.MinInt64+1), isNaN, infinite, downwards))
	checkLeaf(t, types, "Float", refused(truth(true), truth(false), text("1"), text("1.0"), text("")))
	checkLeaf(t, types, "Float", refused(composites()...))
}

// P23.1: String.
func TestLeafString(t *testing.T) {
	types := sound(t, chapter)
	checkLeaf(t, types, "String", []leafRow{
		{text("s"), `"s"`}, {text(""), `""`}, {text("true"), `"true"`}, {text("\u00e9\U0001F600\ufffd\x00"), "\"\u00e9\U0001F600\ufffd\\u0000\""},
		{truth(true), `"true"`}, {truth(false), `"false"`},
		{whole(-7), `"-7"`}, {whole(0), `"0"`}, {whole(math.MaxInt64), `"9223372036854775807"`}, {whole(math.MinInt64), `"-9223372036854775808"`},
		{float(1e21), `"1e21"`}, {float(7), `"7.0"`}, {float(minusNought), `"-0.0"`}, {float(0), `"0.0"`}, {float(0.1), `"0.1"`}, {float(5e-324), `"5e-324"`},
	})
	checkLeaf(t, types, "String", refused(isNaN, infinite, downwards))
	checkLeaf(t, types, "String", refused(text("\xff"), text("a\xc3"), text("\xed\xa0\x80"), text("\xc0\x80"), text("\xf4\x90\x80\x80")))
	checkLeaf(t, types, "String", refused(composites()...))
}

// P23.1: Boolean.
func TestLeafBoolean(t *testing.T) {
	types := sound(t, chapter)
	checkLeaf(t, types, "Boolean", []leafRow{{truth(true), "true"}, {truth(false), "false"}})
	checkLeaf(t, types, "Boolean", refused(whole(1), whole(0), float(1), float(0), isNaN, text("true"), text("false"), text("")))
	checkLeaf(t, types, "Boolean", refused(composites()...))
}

// P23.1: ID.
func TestLeafID(t *testing.T) {
	types := sound(t, chapter)
	checkLeaf(t, types, "ID", []leafRow{
		{text("x"), `"x"`}, {text(""), `""`}, {text("7.5"), `"7.5"`}, {text("\u00e9"), "\"\u00e9\""},
		{whole(7), `"7"`}, {whole(-7), `"-7"`}, {whole(0), `"0"`}, {whole(math.MaxInt64), `"9223372036854775807"`}, {whole(math.MinInt64), `"-9223372036854775808"`},
		{float(7), `"7"`}, {float(minusNought), `"0"`}, {float(-2147483649), `"-2147483649"`}, {float(-1 << 63), `"-9223372036854775808"`}, {float(math.Nextafter(1<<63, 0)), `"9223372036854774784"`},
	})
	checkLeaf(t, types, "ID", refused(float(7.5), float(5e-324), float(1<<63), float(math.Nextafter(-1<<63, math.Inf(-1))), float(1e300), isNaN, infinite, downwards))
	checkLeaf(t, types, "ID", refused(truth(true), truth(false), text("\xff"), text("a\xc3")))
	checkLeaf(t, types, "ID", refused(composites()...))
}

// P23.1: a scalar type of a schema's own, with and without directives, also one whose name is nearly a built-in one's.
func TestLeafCustom(t *testing.T) {
	types := sound(t, chapter+` scalar string @specifiedBy(url: "u") scalar Int_ extend scalar Int_ @d directive @d on SCALAR scalar E_`)
	for _, name := range []string{"S", "string", "Int_", "E_"} {
		checkLeaf(t, types, name, []leafRow{
			{truth(false), "false"}, {whole(math.MinInt64), "-9223372036854775808"}, {float(7), "7.0"}, {float(minusNought), "-0.0"}, {text("A"), `"A"`}, {text(""), `""`},
			{list(), "[]"}, {object(), "{}"}, {list(whole(1), api.Value{}), "[1,null]"},
			{object(member("a", list(whole(1), api.Value{}))), `{"a":[1,null]}`},
			{object(member("b", whole(1)), member("a", object(member("b", whole(2)))), member("", list(list()))), `{"b":1,"a":{"b":2},"":[[]]}`},
			{list(object(member("a", whole(1))), object(member("a", whole(2)))), `[{"a":1},{"a":2}]`},
		})
		bad := []api.Value{isNaN, infinite, downwards, text("\xff"), handle("T"), {Kind: api.KindHandle}, object(member("a", whole(1)), member("a", whole(2))), object(member("\xff", whole(1)))}
		checkLeaf(t, types, name, refused(bad...))
		for _, v := range append(bad, api.Value{Kind: 9}, api.Value{Kind: -1}) {
			checkLeaf(t, types, name, refused(list(v), list(whole(1), v), object(member("b", whole(1)), member("a", list(object(member("c", v)))))))
		}
	}
}

// P23.1: an enum, the values of its extensions and the built-in ones' too.
func TestLeafEnum(t *testing.T) {
	types := sound(t, chapter+" extend enum E {C @deprecated} enum F {a A b}")
	checkLeaf(t, types, "E", []leafRow{{text("A"), `"A"`}, {text("B"), `"B"`}, {text("C"), `"C"`}})
	checkLeaf(t, types, "F", []leafRow{{text("a"), `"a"`}, {text("A"), `"A"`}, {text("b"), `"b"`}})
	checkLeaf(t, types, "__TypeKind", []leafRow{{text("LIST"), `"LIST"`}, {text("NON_NULL"), `"NON_NULL"`}})
	checkLeaf(t, types, "__DirectiveLocation", []leafRow{{text("FIELD"), `"FIELD"`}, {text("INPUT_FIELD_DEFINITION"), `"INPUT_FIELD_DEFINITION"`}})
	for _, name := range []string{"E", "__TypeKind", "__DirectiveLocation"} {
		checkLeaf(t, types, name, refused(text("a"), text("D"), text(""), text("A "), text("A\x00"), text("A B"), text("E.A"), text("\xff"), text("OBJECTS")))
		checkLeaf(t, types, name, refused(whole(0), whole(1), float(0), isNaN, truth(true)))
		checkLeaf(t, types, name, refused(composites()...))
	}
	checkLeaf(t, types, "F", refused(text("B"), text("C")))
	for _, kind := range []api.Kind{api.KindBool, api.KindInt, api.KindFloat, api.KindList, api.KindObject, api.KindHandle} {
		checkLeaf(t, types, "E", refused(api.Value{Kind: kind, Text: "A"}))
	}
}

type runtimeRow struct {
	want string
	v    api.Value
	name string
}

func checkRuntime(t *testing.T, types *typesys.Types, rows []runtimeRow) {
	t.Helper()
	for _, row := range rows {
		if got := runtimeText(t, types, row.want, row.v); got != row.name {
			t.Errorf("Runtime(%s, %v): got %s, want %s", row.want, row.v, got, row.name)
		}
	}
}

const family = `type Query {a: Int} interface N {a: Int} interface M implements N {a: Int} interface Lone {a: Int}
	type T implements N {a: Int} type V implements M & N {a: Int} type W {a: Int} union U = V | W union X = V enum E {A} scalar S input P {a: Int}
	extend union X = T extend type W implements Lone {b: Int}`

// P23.2: what may stand for an object, an interface or a union.
func TestRuntime(t *testing.T) {
	types := sound(t, family)
	may := map[string]string{"Query": "Query", "T": "T", "V": "V", "W": "W", "N": "T V", "M": "V", "Lone": "W", "U": "V W", "X": "V T", "__Type": "__Type", "__Schema": "__Schema"}
	names := append(types.Names(), "", "Nope", "n", "\xff", "T V", "T!", "[T]", "skip", "a")
	for want, all := range may {
		for _, name := range names {
			right := "ErrRuntime"
			if slices.Contains(strings.Fields(all), name) {
				right = name
			}
			checkRuntime(t, types, []runtimeRow{{want, handle(name), right}, {want, noisy(handle(name)), right}, {want, api.Value{Kind: api.KindHandle, Type: name}, right}})
		}
	}
	// An interface that no object implements.
	types = sound(t, "type Query {a: Int} interface N {a: Int} interface M implements N {a: Int}")
	checkRuntime(t, types, []runtimeRow{{"N", handle("Query"), "ErrRuntime"}, {"N", handle("N"), "ErrRuntime"}, {"N", handle("M"), "ErrRuntime"}, {"M", handle("M"), "ErrRuntime"}})
}

// P23.2: values that are no handles, whatever their other fields say.
func TestRuntimeOfNoHandle(t *testing.T) {
	types := sound(t, family)
	for _, want := range []string{"Query", "N", "M", "Lone", "T", "U", "X", "__Type"} {
		for _, v := range []api.Value{{}, truth(true), whole(1), float(1), isNaN, text("T"), list(), list(handle("T")), object(), object(member("T", handle("T"))), {Kind: 8}, {Kind: 9}, {Kind: -1}} {
			checkRuntime(t, types, []runtimeRow{{want, v, "ErrResult"}})
			v.Type = "T"
			checkRuntime(t, types, []runtimeRow{{want, v, "ErrResult"}})
		}
	}
}

// P23.2: names that aren't those of an object, an interface or a union, whatever the value.
func TestRuntimeOfNoComposite(t *testing.T) {
	types := sound(t, family+" directive @d on FIELD")
	for _, want := range []string{"E", "S", "P", "Int", "ID", "__TypeKind", "Nope", "", "d", "\xff", "T!", "[T]", "query", "T V"} {
		for _, v := range []api.Value{{}, {Kind: 9}, whole(1), text("T"), object(), handle("T"), handle(want), handle("")} {
			checkRuntime(t, types, []runtimeRow{{want, v, "ErrKind"}})
		}
	}
}
