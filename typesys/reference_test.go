package typesys_test

import (
	"strings"
	"testing"

	"pergola/api"
	"pergola/typesys"
)

// P12.8: the type of a list's items.
func TestItem(t *testing.T) {
	for _, c := range []struct {
		wrap, want string
		ok         bool
	}{
		{"", "", false}, {"!", "", false}, {"!!", "", false}, {"]!!", "", false}, {"]x", "", false}, {"x", "", false}, {"[", "", false}, {"]\x00", "", false}, {"]é", "", false}, {"] ", "", false}, {"]x!", "", false},
		{"]", "", true}, {"]!", "", true}, {"!]", "!", true}, {"!]!", "!", true}, {"]]", "]", true}, {"]]!", "]", true}, {"]!]", "]!", true}, {"!]]!", "!]", true},
		{"x]", "x", true}, {"x]!", "x", true}, {"!!]!", "!!", true}, {"\xff]", "\xff", true}, {"é]!", "é", true},
	} {
		for _, name := range []string{"Int", "", "\xff", "]", "!"} {
			got, ok := typesys.Item(ref(name, c.wrap))
			want := api.TypeRef{}
			if c.ok {
				want = ref(name, c.want)
			}
			alike(t, "Item "+name+" "+c.wrap, got, want)
			alike(t, "Item "+name+" "+c.wrap, ok, c.ok)
		}
	}
}

// P12.8: a type without the ! behind it.
func TestBare(t *testing.T) {
	for _, c := range []struct {
		wrap, want string
		ok         bool
	}{
		{"", "", false}, {"]", "]", false}, {"!]", "!]", false}, {"x", "x", false}, {"!x", "!x", false}, {"!\x00", "!\x00", false}, {"é", "é", false},
		{"!", "", true}, {"!!", "!", true}, {"]!", "]", true}, {"!]]!", "!]]", true}, {"x!", "x", true}, {"\xff!", "\xff", true},
	} {
		for _, name := range []string{"Int", "", "\xff", "!"} {
			got, ok := typesys.Bare(ref(name, c.wrap))
			alike(t, "Bare "+name+" "+c.wrap, got, ref(name, c.want))
			alike(t, "Bare "+name+" "+c.wrap, ok, c.ok)
		}
	}
}

// allWraps are all texts of the marks of at most so many.
func allWraps(marks string, most int) []string {
	wraps := []string{""}
	for from := 0; most > 0; most-- {
		to := len(wraps)
		for _, wrap := range wraps[from:to] {
			for i := range len(marks) {
				wraps = append(wraps, wrap+marks[i:i+1])
			}
		}
		from = to
	}
	return wraps
}

// P12.8: Item and Bare of all short wraps.
func TestAllWraps(t *testing.T) {
	for _, wrap := range allWraps("!]x[", 6) {
		rest := wrap
		bare, ok := typesys.Bare(ref("T", wrap))
		if wrap != "" && wrap[len(wrap)-1] == '!' {
			rest = wrap[:len(wrap)-1]
		}
		if bare != ref("T", rest) || ok != (rest != wrap) {
			t.Fatalf("Bare of %q: %v %v", wrap, bare, ok)
		}
		var want api.TypeRef
		isList := rest != "" && rest[len(rest)-1] == ']'
		if isList {
			want = ref("T", rest[:len(rest)-1])
		}
		if item, ok := typesys.Item(ref("T", wrap)); item != want || ok != isList {
			t.Fatalf("Item of %q: %v %v", wrap, item, ok)
		}
	}
}

// P12.9: references at each last mark.
func TestFits(t *testing.T) {
	s := build(t, "interface I type A implements I union U=A enum E{A} input N{a:N} interface J implements I")
	for _, c := range []struct {
		a, b api.TypeRef
		want bool
	}{
		{ref("A", ""), ref("A", ""), true}, {ref("A", ""), ref("I", ""), true}, {ref("I", ""), ref("A", ""), false}, {ref("J", ""), ref("I", ""), true}, {ref("X", ""), ref("X", ""), false}, {ref("", ""), ref("", ""), false},
		{ref("A", "!"), ref("A", ""), true}, {ref("A", ""), ref("A", "!"), false}, {ref("A", "!"), ref("U", "!"), true}, {ref("U", "!"), ref("A", "!"), false},
		{ref("A", "]"), ref("A", ""), false}, {ref("A", ""), ref("A", "]"), false}, {ref("A", "]"), ref("I", "]"), true}, {ref("I", "]"), ref("A", "]"), false}, {ref("A", "]!"), ref("A", ""), false},
		{ref("A", "!]"), ref("I", "]"), true}, {ref("A", "]"), ref("I", "!]"), false}, {ref("A", "!]!"), ref("I", "]"), true}, {ref("A", "!]"), ref("I", "!]!"), false}, {ref("A", "!]!"), ref("I", "!]!"), true},
		{ref("A", "]"), ref("A", "]]"), false}, {ref("A", "]]"), ref("A", "]"), false}, {ref("A", "!]!]"), ref("U", "]]"), true}, {ref("A", "!]]!"), ref("U", "]!]"), false},
		{ref("A", "!!"), ref("A", ""), true}, {ref("A", "!!"), ref("A", "!"), true}, {ref("A", "!"), ref("A", "!!"), false}, {ref("A", "!!"), ref("A", "!!"), true}, {ref("A", "!!]"), ref("A", "]"), true},
		{ref("A", "x"), ref("A", "x"), false}, {ref("A", "x"), ref("A", ""), false}, {ref("A", ""), ref("A", "x"), false}, {ref("A", "x!"), ref("A", "x!"), false}, {ref("A", "x]"), ref("A", "x]"), false}, {ref("A", "!"), ref("A", "x"), false},
		{ref("A", "\x00"), ref("A", ""), false}, {ref("A", ""), ref("A", "\x00"), false}, {ref("A", "\x00"), ref("A", "\x00"), false}, {ref("A", "["), ref("A", "["), false}, {ref("A", "é"), ref("A", "é"), false}, {ref("A", "\xff"), ref("A", "\xff"), false},
		{ref("E", "!"), ref("E", ""), true}, {ref("N", "]!"), ref("N", "]"), true}, {ref("Int", "!"), ref("Int", ""), true}, {ref("Int", ""), ref("ID", ""), false}, {ref("__Type", ""), ref("__Type", ""), true},
	} {
		alike(t, "Fits "+c.a.Name+" "+c.a.Wrap+", "+c.b.Name+" "+c.b.Wrap, s.Fits(c.a, c.b), c.want)
	}
}

// P12.9: all short wraps, held against the chapter's words.
func TestFitsAtAllWraps(t *testing.T) {
	const src = "interface I type A implements I"
	s, m := build(t, src), newModel(t, src)
	var none *typesys.Types
	wraps := allWraps("!]x", 4)
	fitting := 0
	for _, wrap := range wraps {
		for _, other := range wraps {
			for _, names := range [][2]string{{"A", "A"}, {"A", "I"}, {"I", "A"}, {"A", "X"}} {
				a, b := ref(names[0], wrap), ref(names[1], other)
				want := m.Fits(a, b)
				if s.Fits(a, b) != want {
					t.Fatalf("Fits(%v, %v) is %v", a, b, !want)
				}
				if want {
					fitting++
				}
			}
			if got, want := none.Fits(ref("Int", wrap), ref("Int", other)), m.Fits(ref("Int", wrap), ref("Int", other)); got != want {
				t.Fatalf("Fits of Int %s, Int %s is %v of none", wrap, other, got)
			}
		}
	}
	if fitting < 100 {
		t.Error("fitting:", fitting)
	}
}

// R1: references of many marks.
func TestLongWraps(t *testing.T) {
	s := build(t, "type A")
	long := strings.Repeat("!]", 1<<20)
	alike(t, "long lists", s.Fits(ref("A", long), ref("A", strings.Repeat("]", 1<<20))), true)
	alike(t, "long lists of null", s.Fits(ref("A", strings.Repeat("]", 1<<20)), ref("A", long)), false)
	alike(t, "many !", s.Fits(ref("A", strings.Repeat("!", 1<<20)), ref("A", "")), true)
	item, ok := typesys.Item(ref("A", long))
	alike(t, "a long wrap's item", item.Name == "A" && item.Wrap == long[:len(long)-1] && ok, true)
}
