package fields_test

import "testing"

// P17.1: ErrFieldNone: a field that the type of its scope doesn't have.
func TestUnknownFields(t *testing.T) {
	checkRows(t, zoo, selections, []row{
		{"{e}", ""},
		{"{nope}", "FieldNone 1:2"},
		{"{e nope i other}", "FieldNone 1:4; FieldNone 1:11"},
		{"{k: nope}", "FieldNone 1:2"},
		{"{nope: e}", ""},
		{"{E}", "FieldNone 1:2"},
		{"mutation {e}", "FieldNone 1:11"},
		{"{o {a nope}}", "FieldNone 1:7"},
		{"{oo {e}}", "FieldNone 1:6"},
		{"{n {n {a}}}", "FieldNone 1:8"},
		{"{u {a}}", "FieldNone 1:5"},
		{"{u {... on O {a} ... on V {a}}}", "FieldNone 1:28"},
		{"{... on Change {e}}", "FieldNone 1:17"},
		{"{... {nope}}", "FieldNone 1:7"},
		{"fragment F on V {v {v {v {a}}}}", "FieldNone 1:27"},
		{"{__nope}", "FieldNone 1:2"},
		{"{o {__schema {types {name}} __type(name: \"O\") {name}}}", "FieldNone 1:5; FieldNone 1:29"},
		{"{__schema {nope types {nope}}}", "FieldNone 1:12; FieldNone 1:24"},
		{"{__typename o {__typename} u {__typename} n {__typename}}", ""},
		// in the scope of none nothing is asked
		{"{nope {nope {nope}}}", "FieldNone 1:2"},
		{"{... on Nope {nope}}", ""},
		{"{... on P {a}}", ""},
		{"{... on E {... {A}}}", ""},
		{"fragment F on S {nope {nope}}", ""},
		{"{nope {... on O {nope}}}", "FieldNone 1:2; FieldNone 1:18"},
		{"{...Nope}", ""},
	})
	checkRows(t, rootless(), selections, []row{{"mutation {o nope {nope}} {nope}", "FieldNone 1:27"}})
}

// P17.1: ErrLeafSels and ErrNoSels: by the type that the field's type names, whatever its marks.
func TestSelectionsOfFields(t *testing.T) {
	checkRows(t, zoo, selections, []row{
		{"{e i s}", ""},
		{"{e {a}}", "LeafSels 1:2"},
		{"{ee {a} i {a} s {a}}", "LeafSels 1:2; LeafSels 1:9; LeafSels 1:15"},
		{"{k: e {__typename}}", "LeafSels 1:2"},
		{"{e {... on O {a {b}}}}", "LeafSels 1:2; LeafSels 1:15"},
		{"{e {...F}}", "LeafSels 1:2"},
		{"{__typename {a}}", "LeafSels 1:2"},
		{"{o}", "NoSels 1:2"},
		{"{o oo n u self}", "NoSels 1:2; NoSels 1:4; NoSels 1:7; NoSels 1:9; NoSels 1:11"},
		{"{k: o}", "NoSels 1:2"},
		{"{o {u}}", "NoSels 1:5"},
		{"{o {...Nope} u {... {... on Nope {a}}}}", ""},
		{"{__schema __type(name: \"O\")}", "NoSels 1:2; NoSels 1:11"},
		{"{__schema {types queryType {kind {a} name}}}", "LeafSels 1:29; NoSels 1:12"},
		{"{f(x: 1) @skip(if: true)}", "NoSels 1:2"},
		{"{nope nope {a}}", "FieldNone 1:2; FieldNone 1:7"},
		{"{nope {o e {a}}}", "FieldNone 1:2"},
		{"fragment F on O {n} query {e {a}}", "LeafSels 1:28; NoSels 1:18"},
		{"subscription {o} mutation {o}", "NoSels 1:15; NoSels 1:28"},
	})
}
