package vars_test

import (
	"strings"
	"testing"

	"pergola/api"
	"pergola/parts"
	"pergola/printer"
	"pergola/vars"
)

// P20.2: the chapter's examples, and each rule at its edges.
func TestAllowed(t *testing.T) {
	for _, c := range []struct {
		has                     string
		hasDefault              bool
		want                    string
		wantDefault, areAllowed bool
	}{
		{"Int", false, "Int!", true, true}, {"Int!", false, "Int", false, true}, {"[Int]", true, "[Int!]!", false, false}, {"[Int!]", true, "[Int!]!", false, true},
		{"Int", false, "Int", false, true}, {"Int!", false, "Int!", false, true}, {"Int", false, "Int!", false, false}, {"Int", true, "Int!", false, true}, {"Int", true, "Int!", true, true}, {"Int", true, "Int", true, true},
		{"Int", false, "Float", false, false}, {"Int", true, "Float!", true, false}, {"Int!", false, "Float", false, false}, {"Int", false, "int", false, false}, {"[Int]", false, "[Float]", false, false}, {"Nope", false, "Nope", false, true},
		{"Int", false, "[Int]", false, false}, {"[Int]", false, "Int", false, false}, {"Int!", false, "[Int]", true, false}, {"[Int]", true, "[[Int]]", true, false}, {"[[Int]]", false, "[Int]", false, false}, {"Int", true, "[Int]!", true, false},
		{"[Int!]", false, "[Int]", false, true}, {"[Int!]!", false, "[Int]", false, true}, {"[Int!]!", false, "[Int!]", false, true}, {"[Int]!", false, "[Int!]!", false, false}, {"[Int]!", true, "[Int!]!", true, false}, {"[Int]", false, "[Int!]", true, false}, {"[Int]", true, "[Int!]", true, false},
		// a default stands in for the outermost mark alone
		{"[[Int]]", true, "[[Int]]!", false, true}, {"[[Int]]", true, "[[Int]!]!", false, false}, {"[[Int]!]", true, "[[Int]!]!", false, true}, {"[[Int!]!]", false, "[[Int]]!", true, true}, {"[[Int!]!]", false, "[[Int]]!", false, false}, {"[[Int!]!]!", false, "[[Int]]", false, true}, {"[[Int]!]!", false, "[[Int!]]", false, false},
	} {
		has, hasFault := parts.ReadType([]byte(c.has), 9)
		want, wantFault := parts.ReadType([]byte(c.want), 9)
		if hasFault.Kind != api.OK || wantFault.Kind != api.OK {
			t.Fatal(c)
		}
		if got := vars.Allowed(has, c.hasDefault, want, c.wantDefault); got != c.areAllowed {
			t.Errorf("%s (%v) at %s (%v): got %v", c.has, c.hasDefault, c.want, c.wantDefault, got)
		}
	}
}

// P20.2: references that are not well made.
func TestAllowedOfAnyReferences(t *testing.T) {
	long := strings.Repeat("]", 1<<20)
	for _, c := range []struct {
		has, want  string
		areAllowed bool
	}{
		{"!!", "!", true}, {"!", "!!", false}, {"!!", "!!", true}, {"!!!", "", true}, {"!!]", "!]", true}, {"!]!!", "]", true},
		{"x", "x", false}, {"x!", "x!", false}, {"x", "", false}, {"", "x", false}, {"x]", "x]", false}, {"!x", "!x", false}, {"\x00", "\x00", false}, {"\x00", "", false}, {"", "\x00", false}, {"[", "[", false}, {"é", "é", false}, {"\xff!", "\xff", false}, {"x!", "", false}, {"!", "x", false},
		{long, long, true}, {long + "!", long, true}, {long + "]", long, false}, {long, long + "!", false}, {"!" + long, long, true}, {long, "!" + long, false}, {strings.Repeat("!", 1<<20), "", true},
	} {
		if got := vars.Allowed(api.TypeRef{Name: "T", Wrap: c.has}, false, api.TypeRef{Name: "T", Wrap: c.want}, false); got != c.areAllowed {
			t.Errorf("%.20q at %.20q: got %v", c.has, c.want, got)
		}
		if vars.Allowed(api.TypeRef{Name: "T", Wrap: c.has}, false, api.TypeRef{Name: "U", Wrap: c.want}, false) {
			t.Errorf("%.20q at %.20q: names are unlike", c.has, c.want)
		}
	}
	for _, names := range [][2]string{{"", ""}, {"\xff", "\xff"}} {
		if !vars.Allowed(api.TypeRef{Name: names[0]}, false, api.TypeRef{Name: names[1]}, false) {
			t.Errorf("%q", names)
		}
	}
	// an odd mark is none that a default stands in for
	for _, wrap := range []string{"x", "!x", "]x", "\x00"} {
		if vars.Allowed(api.TypeRef{Wrap: wrap}, true, api.TypeRef{Wrap: wrap + "!"}, true) || vars.Allowed(api.TypeRef{}, true, api.TypeRef{Wrap: wrap}, true) {
			t.Errorf("%q", wrap)
		}
	}
}

// marksOf are all texts of some marks, up to a length.
func marksOf(marks string, longest int) []string {
	all, before := []string{""}, []string{""}
	for range longest {
		var next []string
		for _, text := range before {
			for _, mark := range strings.Split(marks, "") {
				next = append(next, text+mark)
			}
		}
		all, before = append(all, next...), next
	}
	return all
}

// P20.2: all pairs of short references, held against the chapter's words.
func TestAllReferences(t *testing.T) {
	all := marksOf("!]x", 5)
	count := map[bool]int{}
	for _, one := range all {
		for _, other := range all {
			for choice := range 4 {
				has, want := api.TypeRef{Name: "T", Wrap: one}, api.TypeRef{Name: "T", Wrap: other}
				got := vars.Allowed(has, choice&1 > 0, want, choice&2 > 0)
				if got != permits(has, choice&1 > 0, want, choice&2 > 0) {
					t.Fatalf("%q at %q, %d: got %v", one, other, choice, got)
				}
				count[got]++
			}
		}
	}
	if count[true] < 1000 || count[false] < 1000 {
		t.Error("too few of a kind:", count)
	}
}

// valuesOf are the values of a type that is well made, written out, among those that are not too deep or long.
func valuesOf(wrap string, depth int) map[string]bool {
	values := map[string]bool{}
	rest, isNonNull := strings.CutSuffix(wrap, "!")
	if item, isList := strings.CutSuffix(rest, "]"); !isList {
		values["1"] = true
	} else if depth > 0 {
		values["[]"] = true
		for value := range valuesOf(item, depth-1) {
			values["["+value+"]"] = true
		}
	}
	if !isNonNull {
		values["null"] = true
	}
	return values
}

// P20.2: without defaults a variable is allowed just where each of its values is one of the place's type; a default of either stands in for null.
func TestAllowedByValues(t *testing.T) {
	for _, one := range marksOf("!]", 7) {
		for _, other := range marksOf("!]", 7) {
			if strings.Contains(one+" "+other, "!!") {
				continue
			}
			areAll, areAllButNull := true, true
			want := valuesOf(other, 8)
			for value := range valuesOf(one, 8) {
				areAll = areAll && want[value]
				areAllButNull = areAllButNull && (want[value] || value == "null")
			}
			has, place := api.TypeRef{Name: "T", Wrap: one}, api.TypeRef{Name: "T", Wrap: other}
			for choice := range 4 {
				fits := areAll
				if choice > 0 {
					fits = areAllButNull
				}
				if got := vars.Allowed(has, choice&1 > 0, place, choice&2 > 0); got != fits {
					t.Fatalf("%s at %s, %d: got %v", printer.Type(has), printer.Type(place), choice, got)
				}
			}
		}
	}
}
