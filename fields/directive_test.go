package fields_test

import "testing"

// P17.1: ErrDirNone, at all places.
func TestUnknownDirectives(t *testing.T) {
	checkRows(t, zoo, directives, []row{
		{"{e @field}", ""},
		{"{e @nope}", "DirNone 1:4"},
		{"{e @nope @nope @Field}", "DirNone 1:4; DirNone 1:10; DirNone 1:16"},
		{"query ($v: Int @nope) @nope {... @nope {e} ...F @nope} mutation A @nope {o} subscription B @nope {o} fragment F on Root @nope {e @nope}", "DirNone 1:16; DirNone 1:23; DirNone 1:34; DirNone 1:49; DirNone 1:67; DirNone 1:92; DirNone 1:121; DirNone 1:130"},
		{"{nope @nope ... on Nope @nope {nope @field}}", "DirNone 1:7; DirNone 1:25"},
	})
}

// P17.1: ErrDirPlace: each directive stands at its own places alone.
func TestPlacesOfDirectives(t *testing.T) {
	checkRows(t, zoo, directives, []row{
		{"query A($v: Int @variable) @query {... @inline {e @field} ...F @spread} mutation B @mutation {o} subscription C @subscription {o} fragment F on Root @fragment {e}", ""},
		{"query A($v: Int @all) @all {... @all {e @all} ...F @all} mutation B @all {o} subscription C @all {o} fragment F on Root @all {e}", ""},
		{"query A @query @mutation @subscription @fragment @variable @field @spread @inline {e}", "DirPlace 1:16; DirPlace 1:26; DirPlace 1:40; DirPlace 1:50; DirPlace 1:60; DirPlace 1:67; DirPlace 1:75"},
		{"{e} mutation @query @mutation @subscription @field {o}", "DirPlace 1:14; DirPlace 1:31; DirPlace 1:45"},
		{"subscription @query @mutation @subscription @field {o}", "DirPlace 1:14; DirPlace 1:21; DirPlace 1:45"},
		{"fragment F on Root @query @fragment @spread @inline {e}", "DirPlace 1:20; DirPlace 1:37; DirPlace 1:45"},
		{"query ($v: Int @query @variable @field) {e}", "DirPlace 1:16; DirPlace 1:33"},
		{"{e @query @field @spread @inline @fragment}", "DirPlace 1:4; DirPlace 1:18; DirPlace 1:26; DirPlace 1:34"},
		{"{...F @field @spread @inline @fragment}", "DirPlace 1:7; DirPlace 1:22; DirPlace 1:30"},
		{"{... @field @spread @inline @fragment {e} ... on Root @field @inline {e}}", "DirPlace 1:6; DirPlace 1:13; DirPlace 1:29; DirPlace 1:55"},
		{"query @skip(if: true) {e @skip(if: true) @deprecated ... @skip(if: true) {e} ...F @include(if: true)} fragment F on Root @include(if: true) {e @specifiedBy(url: \"\")}", "DirPlace 1:7; DirPlace 1:42; DirPlace 1:122; DirPlace 1:144"},
		{"query ($v: Int @system) @system {e @system}", "DirPlace 1:16; DirPlace 1:25; DirPlace 1:36"},
	})
}

// P17.1: ErrDirSame is one fault for each name at one owner, of directives that are known and may not be repeated.
func TestSameDirectives(t *testing.T) {
	checkRows(t, zoo, directives, []row{
		{"{e @field @all}", ""},
		{"{e @field @field}", "DirSame 1:4 1:11"},
		{"{e @field @all @field\n@all @field}", "DirSame 1:4 1:16 2:6; DirSame 1:11 2:1"},
		{"{e @many(x: 1 y: A) @many(x: 1 y: A) @many(x: 1 y: A)}", ""},
		{"{e @nope @nope}", "DirNone 1:4; DirNone 1:10"},
		{"{e @field e @field}", ""},
		{"{e @all o @all {a @all n @all}}", ""},
		{"{... @all {e @all} ...F @all ... @all @all {e}}", "DirSame 1:34 1:39"},
		{"query A @all {e} query B @all {e} fragment F on Root @all {e}", ""},
		{"query A($v: Int @all $w: Int @all) @all {e @all} query B($v: Int @all) @all {e}", ""},
		{"query A($v: Int @all @all $w: Int @all @all) @all @all {e @all @all} query B($v: Int @all @all) @all @all {e} fragment F on O @all @all {...F @all @all}", "DirSame 1:17 1:22; DirSame 1:35 1:40; DirSame 1:46 1:51; DirSame 1:59 1:64; DirSame 1:86 1:91; DirSame 1:97 1:102; DirSame 1:127 1:132; DirSame 1:143 1:148"},
		{"query @field @field {e}", "DirPlace 1:7; DirPlace 1:14; DirSame 1:7 1:14"},
		{"query @system @system {e}", "DirPlace 1:7; DirPlace 1:15"},
		{"{e @skip(if: true) @skip(if: false) @include(if: true)}", "DirSame 1:4 1:20"},
	})
}
