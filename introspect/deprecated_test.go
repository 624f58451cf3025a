package introspect_test

import (
	"testing"

	"pergola/api"
	"pergola/introspect"
)

// P15.7: what is deprecated, and why, of fields and of enum values.
func TestDeprecated(t *testing.T) {
	const others = `directive@d(reason:String)repeatable on FIELD_DEFINITION|ENUM_VALUE|OBJECT|ENUM|ARGUMENT_DEFINITION
		directive@Deprecated on FIELD_DEFINITION|ENUM_VALUE directive@e(deprecated:String)on FIELD_DEFINITION|ENUM_VALUE `
	for _, r := range [][3]string{
		{"", "false", "null"},
		{"@deprecated", "true", "'No longer supported'"},
		{`@deprecated(reason:"r")`, "true", "'r'"},
		{`@deprecated(reason:"")`, "true", "''"},
		{`@deprecated(reason:"No longer supported")`, "true", "'No longer supported'"},
		{`@deprecated(reason:null)`, "true", "null"},
		{`@deprecated(reason:"null")`, "true", "'null'"},
		{"@deprecated(reason:\"\"\"\n  a\n   b\n\"\"\")", "true", "'a\n b'"},
		{`@deprecated(reason:"\u0041\n\"")`, "true", "'A\n\"'"},
		{`@d(reason:"no")`, "false", "null"},
		{`@Deprecated`, "false", "null"},
		{`@e(deprecated:"no")`, "false", "null"},
		{`@d(reason:"no")@deprecated@d(reason:"no")@d`, "true", "'No longer supported'"},
		{`@d(reason:"no")@deprecated(reason:"r")@d(reason:"no")`, "true", "'r'"},
		{`@d(reason:"no")@deprecated(reason:null)@d(reason:"no")`, "true", "null"},
	} {
		s := sound(t, others+"type Query implements I@d{a(x:Int@d):Int"+r[0]+" z:Int} interface I{a(x:Int):Int"+r[0]+"} enum E@d{A"+r[0]+" B} extend type Query{b:Int"+r[0]+"} extend enum E{C"+r[0]+"}")
		for _, handle := range []string{"__Field:Query.a", "__Field:Query.b", "__Field:I.a", "__EnumValue:E.A", "__EnumValue:E.C"} {
			checkRows(t, s, "P15.7", of(handle, "isDeprecated", r[1], "deprecationReason", r[2]))
		}
		fields, values := "[__Field:Query.a __Field:Query.z __Field:Query.b]", "[__EnumValue:E.A __EnumValue:E.B __EnumValue:E.C]"
		checkRows(t, s, "P15.3", append(of("__Type:Query", "fields+", fields), of("__Type:E", "enumValues+", values)...))
		if r[1] == "true" {
			fields, values = "[__Field:Query.z]", "[__EnumValue:E.B]"
			checkRows(t, s, "P15.3", of("__Type:I", "fields", "[]", "fields+", "[__Field:I.a]"))
		}
		checkRows(t, s, "P15.3", append(of("__Type:Query", "fields", fields), of("__Type:E", "enumValues", values)...))
	}
}

// P15.3: the deprecated are told only where includeDeprecated is there, a bool, and true; of two of that name the first counts.
func TestIncludeDeprecated(t *testing.T) {
	s := sound(t, "type Query{a:Int@deprecated b:Int c:Int@deprecated} enum E{A@deprecated B C@deprecated}")
	yes, no := api.Member{Name: "includeDeprecated", Value: truth(true)}, api.Member{Name: "includeDeprecated", Value: truth(false)}
	for i, r := range []struct {
		args []api.Member
		all  bool
	}{
		{nil, false}, {[]api.Member{}, false}, {[]api.Member{yes}, true}, {[]api.Member{no}, false}, {[]api.Member{yes, no}, true}, {[]api.Member{no, yes}, false},
		{[]api.Member{{Name: "x", Value: truth(false)}, yes}, true}, {[]api.Member{{Name: "IncludeDeprecated", Value: truth(true)}}, false}, {[]api.Member{{Name: "", Value: truth(true)}}, false},
		{[]api.Member{{Name: "includeDeprecated"}, yes}, false},
		{arg("includeDeprecated", api.Value{Bool: true}), false},
		{arg("includeDeprecated", api.Value{Kind: api.KindInt, Bool: true, Int: 1}), false},
		{arg("includeDeprecated", api.Value{Kind: api.KindFloat, Bool: true, Float: 1}), false},
		{arg("includeDeprecated", api.Value{Kind: api.KindString, Bool: true, Text: "true"}), false},
		{arg("includeDeprecated", api.Value{Kind: api.KindList, Bool: true, Items: []api.Value{truth(true)}}), false},
		{arg("includeDeprecated", api.Value{Kind: api.KindObject, Bool: true, Fields: []api.Member{yes}}), false},
		{arg("includeDeprecated", api.Value{Kind: api.KindHandle, Bool: true}), false},
		{arg("includeDeprecated", api.Value{Kind: 8, Bool: true}), false},
		{arg("includeDeprecated", api.Value{Kind: -1, Bool: true}), false},
		{arg("includeDeprecated", api.Value{Kind: api.KindBool, Bool: true, Text: "false", Type: "x", Int: 1, Float: 1, Items: make([]api.Value, 1), Fields: make([]api.Member, 1)}), true},
	} {
		fields, values := "[__Field:Query.b]", "[__EnumValue:E.B]"
		if r.all {
			fields, values = "[__Field:Query.a __Field:Query.b __Field:Query.c]", "[__EnumValue:E.A __EnumValue:E.B __EnumValue:E.C]"
		}
		if got := told(introspect.Field(s, handle("__Type", "Query"), "fields", r.args)); got != fields {
			t.Errorf("P15.3: %d: got %s, want %s", i, got, fields)
		}
		if got := told(introspect.Field(s, handle("__Type", "E"), "enumValues", r.args)); got != values {
			t.Errorf("P15.3: %d: got %s, want %s", i, got, values)
		}
	}
}

// P15.3: what is deprecated is a known one all the same, and so is what hangs on it.
func TestDeprecatedIsKnown(t *testing.T) {
	s := sound(t, "type Query{a(x:Int):Int@deprecated} enum E{A@deprecated}")
	checkRows(t, s, "P15.4", []row{{"__Field:Query.a", "name", "'a'"}, {"__InputValue:Query.a(x)", "name", "'x'"}, {"__EnumValue:E.A", "name", "'A'"}, {"__Type:Query", "fields", "[]"}, {"__Type:E", "enumValues", "[]"}})
}
