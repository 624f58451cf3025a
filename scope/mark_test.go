package scope_test

import (
	"strings"
	"testing"

	"pergola/printer"
)

// P16.2: each place at which a directive may stand, with its owner.
func TestMarks(t *testing.T) {
	checkMarks(t, lay(t, zoo, `query ($a: Int @d $b: Int = 1 @d(x: 1) @nope $c: Int @skip(if: true)) @d @nope(x: 1 y: 2) {o @d @d {a @deprecated} ...F @d ... @d {o @d} ... on O @nope {a}}
		mutation ($a: Int @d) @include(if: false) {m @D}
		subscription @specifiedBy {o @d}
		fragment F on Nope @d {a @d}
		query {o}
		query @d {o}`), `
		@d(0) at 1:16: VARIABLE_DEFINITION of -2 known, def 0
		@d(1) at 1:31: VARIABLE_DEFINITION of -3 known, def 0
		@nope(0) at 1:40: VARIABLE_DEFINITION of -3, def 0
		@skip(1) at 1:54: VARIABLE_DEFINITION of -4 known, def 0
		@d(0) at 1:71: QUERY of -1 known, def 0
		@nope(2) at 1:74: QUERY of -1, def 0
		@d(0) at 1:94: FIELD of 0 known, def 0
		@d(0) at 1:97: FIELD of 0 known, def 0
		@deprecated(0) at 1:103: FIELD of 1 known, def 0
		@d(0) at 1:121: FRAGMENT_SPREAD of 2 known, def 0
		@d(0) at 1:128: INLINE_FRAGMENT of 3 known, def 0
		@d(0) at 1:134: FIELD of 4 known, def 0
		@nope(0) at 1:147: INLINE_FRAGMENT of 5, def 0
		@d(0) at 2:21: VARIABLE_DEFINITION of -2 known, def 1
		@include(1) at 2:25: MUTATION of -1 known, def 1
		@D(0) at 2:48: FIELD of 7, def 1
		@specifiedBy(0) at 3:16: SUBSCRIPTION of -1 known, def 2
		@d(0) at 3:32: FIELD of 8 known, def 2
		@d(0) at 4:22: FRAGMENT_DEFINITION of -1 known, def 3
		@d(0) at 4:28: FIELD of 9 known, def 3
		@d(0) at 6:9: QUERY of -1 known, def 5
	`)
}

// P16.2: a mark has the directive's use, whole.
func TestMarksHaveTheirUse(t *testing.T) {
	const src = `query ($v: Int @d(x: [1 {y: 2}])) @d(y: $v z: [[$v]]) {o @d(x: 1.5 x: "s") ...F @d(y: {a: {b: $v}})}`
	doc := parse(t, src).Defs[0]
	marks := lay(t, zoo, src).Marks()
	if len(marks) != 4 {
		t.Fatal("marks:", len(marks))
	}
	alike(t, "of a variable", marks[0].Dir, doc.Vars[0].Dirs[0])
	alike(t, "of an operation", marks[1].Dir, doc.Dirs[0])
	alike(t, "of a field", marks[2].Dir, doc.Sels[0].Dirs[0])
	alike(t, "of a spread", marks[3].Dir, doc.Sels[1].Dirs[0])
}

// P16.2: the order of a document with all that can stand in it: its literals' numbers and its variables rise in the order in which they are laid out, though a field's braces stand behind its directives.
func TestOrder(t *testing.T) {
	s := lay(t, zoo, `query ($a: Int = 1 @d(x: 2) @d(y: 3) $b: Int = 4 @d(x: 5)) @d(x: 6 y: $v1) @nope(z: [7 $v2]) {
			f(x: 8 x: $v3 z: {a: [$v4] b: $v5}) @d(x: 9) @d(x: $v6) {a(x: 10) @d(y: $v7) n @nope(x: 11)}
			...F @d(x: 12 y: $v8) ... @d(x: 13) {o(x: $v9) @d(x: 14)} self(x: 15)
		}
		fragment F on O @d(x: 16 y: $v10) {a(x: $v11) @d(x: 17)}
		{o(x: 18)}`)
	var spots, uses []string
	for _, p := range s.Spots() {
		spots = append(spots, printer.Lit(p.Value))
	}
	checkLines(t, "Spots", spots, strings.ReplaceAll("1;2;3;4;5;6;$v1;[7, $v2];8;$v3;{a: [$v4], b: $v5};9;$v6;10;$v7;11;12;$v8;13;$v9;14;15;16;$v10;$v11;17;18", ";", "\n"))
	for _, u := range s.Uses() {
		uses = append(uses, u.Name)
	}
	checkLines(t, "Uses", uses, strings.ReplaceAll("v1;v2;v3;v4;v5;v6;v7;v8;v9;v10;v11", ";", "\n"))
}
