package typesys_test

import (
	"strconv"
	"strings"
	"testing"
)

// P12.6: the objects that types of each kind may stand for.
func TestPossible(t *testing.T) {
	const src = `union V=C|B|A extend type C implements J type D implements I&I union W=X|E|I|U|Int|N|S extend union W=__Type|A|__Type
		type A implements I interface I interface J implements I type B implements J&X&A&U extend type B implements I
		type C enum E{A} input N{a:Int} scalar S union U=A|A|B|A|B extend union U=D|A interface L implements L union T`
	s := build(t, src)
	for name, want := range map[string]string{
		"A": "A", "B": "B", "C": "C", "D": "D",
		"I": "D A B", "J": "B C", "L": "",
		"U": "A B D", "V": "C B A", "W": "__Type A", "T": "",
		"E": "", "N": "", "S": "", "X": "", "": "", "Int": "", "__TypeKind": "", "__Type": "__Type", "__Schema": "__Schema",
	} {
		alike(t, "Possible("+name+")", told(s.Possible(name)), want)
	}
}

// P12.6: an interface's objects are in the order of Names, a union's in that of its members, whatever order their names and extensions have.
func TestPossibleInOrder(t *testing.T) {
	const many = 100
	var src strings.Builder
	var defined, named []string
	src.WriteString("interface I union U")
	for i := range many {
		defined = append(defined, "T"+strconv.Itoa(i*37%many))
		named = append(named, "T"+strconv.Itoa(i*11%many))
		src.WriteString(" type " + defined[i])
	}
	for _, name := range named {
		src.WriteString(" extend type " + name + " implements I extend union U=" + name)
	}
	s := build(t, src.String())
	for range 10 {
		alike(t, "objects of I", told(s.Possible("I")), told(defined))
		alike(t, "objects of U", told(s.Possible("U")), told(named))
	}
}

// P12.6: which types meet.
func TestMeet(t *testing.T) {
	s := build(t, `interface I interface J implements I interface K type A implements I type B implements J type C type D implements K&I
		union U=A|C union V=B|B|X union W=I|J enum E{A} input N{a:Int} scalar S`)
	meeting := map[string]string{
		"A": "A I U", "B": "B J V", "C": "C U", "D": "D K I",
		"I": "A D I U K", "J": "B J V", "K": "D K I", "U": "A C U I", "V": "B J V",
		"W": "", "E": "", "N": "", "S": "", "X": "", "Int": "", "__Type": "__Type", "": "",
	}
	for a, list := range meeting {
		for b := range meeting {
			alike(t, a+" meets "+b, s.Meet(a, b), isOneOf(b, list))
		}
	}
}

// P12.7: which types lie within which.
func TestWithin(t *testing.T) {
	s := build(t, `interface I interface J implements I interface K implements J&K type A implements K&I&X&C&U type B implements J type C extend type C implements K
		union U=A|C|A|I|X union V=U|B extend union V=C|E enum E{A} extend enum E{I} input N{a:Int} scalar S@I`)
	within := map[string]string{
		"A": "A K I U", "B": "B J V", "C": "C K U V",
		"I": "I", "J": "J I", "K": "K J", "U": "U", "V": "V",
		"E": "E", "N": "N", "S": "S", "X": "", "": "", "Int": "Int", "ID": "ID", "__Type": "__Type", "__TypeKind": "__TypeKind", "skip": "",
	}
	for a, list := range within {
		for b := range within {
			alike(t, a+" within "+b, s.Within(a, b), isOneOf(b, list))
		}
	}
}

// P12.6, P12.7: what is named but of another kind, or of a definition that doesn't count, is passed over.
func TestRelationsThatDoNotCount(t *testing.T) {
	for _, c := range []struct {
		src, possible string // of T
		within        bool   // A within T
	}{
		{"type A implements T", "", false},
		{"type A implements T interface T", "A", true},
		{"interface A implements T interface T", "", true},
		{"type A implements T union T", "", false},
		{"type A implements T type T", "T", false},
		{"type A implements T enum T{A}", "", false},
		{"type A implements T input T", "", false},
		{"type A implements T scalar T", "", false},
		{"type A interface T type A implements T", "", false},
		{"scalar A interface T type A implements T", "", false},
		{"type A interface T extend interface A implements T", "", false},
		{"type A interface T extend type A implements T", "A", true},
		{"extend type A implements T interface T type A", "A", true},
		{"type A union T=A", "A", true},
		{"interface A union T=A", "", false},
		{"scalar A union T=A", "", false},
		{"union A=B union T=A type B", "", false},
		{"union T=A", "", false},
		{"type A union T union T=A", "", false},
		{"type A union T extend union T=A", "A", true},
		{"type A interface T extend union T=A", "", false},
		{"type A implements T union T=A", "A", true},
		{"type A implements T union T interface T", "", false},
	} {
		s := build(t, c.src)
		alike(t, c.src+": objects of T", told(s.Possible("T")), c.possible)
		alike(t, c.src+": A within T", s.Within("A", "T"), c.within)
		alike(t, c.src+": T within A", s.Within("T", "A"), false)
		alike(t, c.src+": A meets T", s.Meet("A", "T"), told(s.Possible("A")) == "A" && isOneOf("A", c.possible))
		alike(t, c.src+": T meets A", s.Meet("T", "A"), s.Meet("A", "T"))
	}
}
