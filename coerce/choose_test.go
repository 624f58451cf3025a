package coerce_test

import (
	"testing"

	"pergola/api"
	"pergola/coerce"
)

// choice is a question to Choose and its answer; -1 stands for ErrOpName.
type choice struct {
	named bool
	name  string
	want  int
}

func checkChoices(t *testing.T, what string, doc api.Document, all []choice) {
	t.Helper()
	for _, c := range all {
		number, errno := coerce.Choose(doc, c.named, c.name)
		if c.want < 0 {
			if number != 0 || errno != api.ErrOpName {
				t.Errorf("%s, %v %q: got %d, %d", what, c.named, c.name, number, errno)
			}
		} else if number != c.want || errno != api.OK {
			t.Errorf("%s, %v %q: got %d, %d, want %d", what, c.named, c.name, number, errno, c.want)
		}
	}
}

// P22.1: an operation by its name, and the one operation without.
func TestChoose(t *testing.T) {
	for src, all := range map[string][]choice{
		"{a}":                     {{false, "", 0}, {false, "A", 0}, {true, "", -1}, {true, "A", -1}},
		"query A {a}":             {{false, "", 0}, {false, "B", 0}, {true, "A", 0}, {true, "a", -1}, {true, "A ", -1}, {true, "", -1}},
		"mutation A {a}":          {{false, "", 0}, {true, "A", 0}},
		"subscription A {a}":      {{false, "", 0}, {true, "A", 0}},
		"query A {a} query B {a}": {{false, "", -1}, {false, "A", -1}, {true, "A", 0}, {true, "B", 1}, {true, "C", -1}, {true, "", -1}},
		"{a} {a}":                 {{false, "", -1}, {true, "", -1}},
		"{a} query B {a}":         {{false, "", -1}, {true, "B", 1}, {true, "", -1}},
		"fragment F on T {a}":     {{false, "", -1}, {false, "F", -1}, {true, "F", -1}},
		"fragment F on T {a} fragment F on T {a} {a} fragment G on T {a}": {{false, "", 2}, {true, "F", -1}, {true, "", -1}},
		"fragment A on T {a} query A {a} mutation A {a}":                  {{true, "A", 1}, {false, "", -1}},
		"query A {a} query B {a} query B {b} subscription C {c}":          {{true, "B", 1}, {true, "C", 3}},
	} {
		checkChoices(t, src, parse(t, src), all)
	}
}

// P22.1: documents that aren't well made: a definition of any kind but a fragment's is an operation.
func TestChooseAmongOddKinds(t *testing.T) {
	odd := api.Document{Defs: []api.Def{{Kind: api.DefFragment, Name: "A"}, {Kind: 99, Name: "A"}}}
	checkChoices(t, "kind 99", odd, []choice{{true, "A", 1}, {false, "", 1}})
	odd.Defs = append(odd.Defs, api.Def{Kind: -1, Name: "\xff"}, api.Def{})
	checkChoices(t, "kinds 99, -1 and 0", odd, []choice{{true, "A", 1}, {true, "\xff", 2}, {true, "", -1}, {false, "A", -1}})
	checkChoices(t, "a definition of kind 0", api.Document{Defs: make([]api.Def, 1)}, []choice{{false, "", 0}, {true, "", -1}})
	checkChoices(t, "no definitions", api.Document{}, []choice{{false, "", -1}, {true, "", -1}, {true, "A", -1}})
}
