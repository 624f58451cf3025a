package parts_test

import (
	"strings"
	"testing"

	"pergola/parts"
)

// P8.4, with the chapter's examples.
func TestTypes(t *testing.T) {
	wantType(t, "Int", 2, "Int ")
	wantType(t, "Int!", 2, "Int !")
	wantType(t, "[Int]", 2, "Int ]")
	wantType(t, "[Int!]", 2, "Int !]")
	wantType(t, "[Int]!", 2, "Int ]!")
	wantType(t, "[[Int!]]!", 2, "Int !]]!")
	wantType(t, "[[Int]!]", 2, "Int ]!]")
	wantType(t, "[ [ Int ! ] ! ] !", 2, "Int !]!]!")
	wantType(t, " # a\n[,Int,,!\ufeff]#", 2, "Int !]")
	for _, word := range []string{"on", "true", "false", "null", "type", "query", "_", "__Type", "a1"} {
		wantType(t, word, 0, word+" ")
		wantType(t, "["+word+"!]", 1, word+" !]")
	}
}

func TestWrongTypes(t *testing.T) {
	for src, want := range map[string]string{
		"[Int!!]": "syntax 1:6", "Int!!": "syntax 1:5", "[Int]!!": "syntax 1:7", "[[[Int]]]": "depth 1:3", "Int]": "syntax 1:4", "": "syntax 1:1", " ": "syntax 1:2",
		"[": "syntax 1:2", "[[": "syntax 1:3", "[Int": "syntax 1:5", "[[Int]": "syntax 1:7", "[Int!": "syntax 1:6", "[]": "syntax 1:2", "[!]": "syntax 1:2", "!": "syntax 1:1", "!Int": "syntax 1:1", "[[[": "depth 1:3",
		"[Int)": "syntax 1:5", "[Int}": "syntax 1:5", "(Int)": "syntax 1:1", "{Int}": "syntax 1:1", "[Int Int]": "syntax 1:6", "Int Int": "syntax 1:5", "[Int],[Int]": "syntax 1:7", "[Int]]": "syntax 1:6",
		"1": "syntax 1:1", "[1]": "syntax 1:2", "\"Int\"": "syntax 1:1", "$Int": "syntax 1:1", "Int ?": "syntax 1:5", "[Int ?": "syntax 1:6", "?": "syntax 1:1", "Int\n\x00": "syntax 2:1", "[Int!! ?": "syntax 1:6", "[[[?": "depth 1:3", "a@b": "syntax 1:2",
	} {
		wantType(t, src, 2, want)
	}
}

// What stands behind a reference stays: it is the caller's.
func TestBehindTypes(t *testing.T) {
	wantCalls(t, "Int ! !", 0, do("Type"), []string{"Int !,true"}, "p!@1:7 nesting 0 fault ok,false")
	wantCalls(t, "[Int] = 3", 1, do("Type"), []string{"Int ],true"}, "p=@1:7 nesting 0 fault ok,false")
	wantCalls(t, "Int ]", 0, do("Type"), []string{"Int ,true"}, "p]@1:5 nesting 0 fault ok,false")
	wantCalls(t, "Int ?", 0, do("Type"), []string{"Int ,true"}, "B@1:5 nesting 0 fault ok,false")
	wantCalls(t, "[[a", 2, do("Type"), []string{",false"}, "E@1:4 nesting 2 fault syntax 1:4,true")
	// A bracket that is open already counts.
	inner := []call{{"Open", []string{"("}}, {"Type", nil}}
	wantCalls(t, "([a])", 2, inner, []string{"true", "a ],true"}, "p)@1:5 nesting 1 fault ok,false")
	wantCalls(t, "([[a]])", 2, inner, []string{"true", ",false"}, "p[@1:3 nesting 2 fault depth 1:3,true")
}

// P8.6, with the chapter's example.
func TestArgs(t *testing.T) {
	wantArgs(t, "(x:1)", true, 1, "(x@1:2:i1@1:4 ) ,true", "E@1:6 nesting 0 fault ok,false")
	wantArgs(t, "( x : 1 , y : \"s\" ) )", true, 1, "(x@1:3:i1@1:7 y@1:11:s\"s\"@1:15 ) ,true", "p)@1:21 nesting 0 fault ok,false")
	wantArgs(t, "(x:1 x:2)", true, 1, "(x@1:2:i1@1:4 x@1:6:i2@1:8 ) ,true", "E@1:10 nesting 0 fault ok,false")
	wantArgs(t, "(x:$y\n on:[{}])", false, 3, "(x@1:2:$y@1:4 on@2:2:[@2:5 {@2:6 } ] ) ,true", "E@2:10 nesting 0 fault ok,false")
	wantArgs(t, "(true:null)(", true, 1, "(true@1:2:null@1:7 ) ,true", "p(@1:12 nesting 0 fault ok,false")
	for _, src := range []string{"", "a", "1", "{x:1}", "[", ")", ":", "@a", "\"s\"", "?"} {
		first := tellToken(parts.New([]byte(src), 0).Token())
		wantArgs(t, src, true, 0, ",true", first+" nesting 0 fault ok,false")
	}
}

func TestWrongArgs(t *testing.T) {
	wrong := func(src string, constant bool, depth int, then string) {
		t.Helper()
		wantArgs(t, src, constant, depth, ",false", then)
	}
	wrong("()", false, 1, "p)@1:2 nesting 1 fault syntax 1:2,true")
	wrong("(", false, 1, "E@1:2 nesting 1 fault syntax 1:2,true")
	wrong("(x)", false, 1, "p)@1:3 nesting 1 fault syntax 1:3,true")
	wrong("(x 1)", false, 1, "i1@1:4 nesting 1 fault syntax 1:4,true")
	wrong("(x:)", false, 1, "p)@1:4 nesting 1 fault syntax 1:4,true")
	wrong("(x:", false, 1, "E@1:4 nesting 1 fault syntax 1:4,true")
	wrong("(x:1", false, 1, "E@1:5 nesting 1 fault syntax 1:5,true")
	wrong("(x:1]", false, 1, "p]@1:5 nesting 1 fault syntax 1:5,true")
	wrong("(x:1 2)", false, 1, "i2@1:6 nesting 1 fault syntax 1:6,true")
	wrong("(:1)", false, 1, "p:@1:2 nesting 1 fault syntax 1:2,true")
	wrong("(1:1)", false, 1, "i1@1:2 nesting 1 fault syntax 1:2,true")
	wrong("(\"x\":1)", false, 1, "s\"x\"@1:2 nesting 1 fault syntax 1:2,true")
	wrong("($x:1)", false, 1, "p$@1:2 nesting 1 fault syntax 1:2,true")
	wrong("(x::1)", false, 1, "p:@1:4 nesting 1 fault syntax 1:4,true")
	wrong("(x:?)", false, 1, "B@1:4 nesting 1 fault syntax 1:4,true")
	wrong("(x:1 y)", false, 1, "p)@1:7 nesting 1 fault syntax 1:7,true")
	wrong("(x:1 y:$z)", true, 1, "p$@1:8 nesting 1 fault syntax 1:8,true")
	wrong("(x:[1 {a:[$z]}])", true, 4, "p$@1:11 nesting 4 fault syntax 1:11,true")
	wrong("(x:1)", false, 0, "p(@1:1 nesting 0 fault depth 1:1,true")
	wrong("(x:[])", false, 1, "p[@1:4 nesting 1 fault depth 1:4,true")
	wrong("(x:1 y:{})", false, 1, "p{@1:8 nesting 1 fault depth 1:8,true")
}

// P8.7, with the chapter's examples.
func TestDirs(t *testing.T) {
	wantDirs(t, "@a(x:1) @a @b(y:[2]) c", true, 2, "@a@1:1 (x@1:4:i1@1:6 ) @a@1:9 @b@1:12 (y@1:15:[@1:17 i2@1:18 ] ) ,true", "nc@1:22 nesting 0 fault ok,false")
	wantDirs(t, "@ a", true, 0, "@a@1:1 ,true", "E@1:4 nesting 0 fault ok,false")
	wantDirs(t, "@\n# a\n,on@true", true, 0, "@on@1:1 @true@3:4 ,true", "E@3:9 nesting 0 fault ok,false")
	wantDirs(t, "@a (x:$v) (", false, 1, "@a@1:1 (x@1:5:$v@1:7 ) ,true", "p(@1:11 nesting 0 fault ok,false")
	wantDirs(t, "@a@a@a", true, 0, "@a@1:1 @a@1:3 @a@1:5 ,true", "E@1:7 nesting 0 fault ok,false")
	wantDirs(t, "@a ?", true, 0, "@a@1:1 ,true", "B@1:4 nesting 0 fault ok,false")
	for _, src := range []string{"", "a", "1", "(x:1)", "{", ":", "$a", "\"s\"", "?"} {
		first := tellToken(parts.New([]byte(src), 0).Token())
		wantDirs(t, src, true, 0, ",true", first+" nesting 0 fault ok,false")
	}
}

// P8.7 and P8.8: nothing is answered of the directives ahead of a fault.
func TestWrongDirs(t *testing.T) {
	wrong := func(src string, constant bool, depth int, then string) {
		t.Helper()
		wantDirs(t, src, constant, depth, ",false", then)
	}
	wrong("@a()", true, 2, "p)@1:4 nesting 1 fault syntax 1:4,true")
	wrong("@1", true, 2, "i1@1:2 nesting 0 fault syntax 1:2,true")
	wrong("@", true, 2, "E@1:2 nesting 0 fault syntax 1:2,true")
	wrong("@@a", true, 2, "p@@1:2 nesting 0 fault syntax 1:2,true")
	wrong("@a @", true, 2, "E@1:5 nesting 0 fault syntax 1:5,true")
	wrong("@a @b @\"c\"", true, 2, "s\"c\"@1:8 nesting 0 fault syntax 1:8,true")
	wrong("@a(x:1) @b(", true, 2, "E@1:12 nesting 1 fault syntax 1:12,true")
	wrong("@a(x:1) @b(x:$y)", true, 2, "p$@1:14 nesting 1 fault syntax 1:14,true")
	wrong("@a(x:1)", true, 0, "p(@1:3 nesting 0 fault depth 1:3,true")
	wrong("@a @b(x:[])", true, 1, "p[@1:9 nesting 1 fault depth 1:9,true")
	wrong("@?", true, 1, "B@1:2 nesting 0 fault syntax 1:2,true")
	wrong("@(x:1)", true, 1, "p(@1:2 nesting 0 fault syntax 1:2,true")
}

// Long lists of each kind are read in a time that grows with their length.
func TestLong(t *testing.T) {
	const n = 200000
	if lit, fault := parts.ReadLit([]byte("["+strings.Repeat("1 ", n)+"]"), true, 1); len(lit.Items) != n || fault.Kind != 0 || lit.Items[n-1].Pos.Col != 2*n {
		t.Error("items:", len(lit.Items), fault)
	}
	if lit, fault := parts.ReadLit([]byte("{"+strings.Repeat("a:1\n", n)+"}"), true, 1); len(lit.Fields) != n || fault.Kind != 0 || lit.Fields[n-1].Pos.Line != n {
		t.Error("fields:", len(lit.Fields), fault)
	}
	c := parts.New([]byte("("+strings.Repeat("a:1 ", n)+")"), 1)
	if list, ok := c.Args(true); !ok || len(list) != n {
		t.Error("arguments:", len(list), ok)
	}
	c = parts.New([]byte(strings.Repeat("@a(b:1)", n)), 1)
	if list, ok := c.Dirs(true); !ok || len(list) != n || list[n-1].Pos.Col != 7*n-6 {
		t.Error("directives:", len(list), ok)
	}
	if _, fault := parts.ReadLit([]byte(strings.Repeat("[", n)), true, 200); tellFault(fault) != "depth 1:201" {
		t.Error("brackets:", fault)
	}
	if lit, fault := parts.ReadLit([]byte("["+strings.Repeat("[]", n)), true, 200); len(lit.Items) != 0 || tellFault(fault) != "syntax 1:400002" {
		t.Error("no end:", len(lit.Items), fault)
	}
}
