package sdl_test

import (
	"math/rand"
	"reflect"
	"strconv"
	"strings"
	"testing"

	"pergola/api"
	"pergola/sdl"
)

// at is a place in short.
func at(p api.Pos) string {
	return strconv.Itoa(p.Line) + ":" + strconv.Itoa(p.Col)
}

// tellFault is a fault in short: its kind and its places; "ok" of none.
func tellFault(f api.Fault) string {
	if f.Kind == api.OK && len(f.Pos) == 0 && len(f.Path) == 0 {
		return "ok"
	}
	kinds := map[api.Errno]string{api.ErrSyntax: "syntax", api.ErrDepth: "depth"}
	out := kinds[f.Kind]
	if out == "" {
		out = "kind " + strconv.Itoa(int(f.Kind))
	}
	for _, p := range f.Pos {
		out += " " + at(p)
	}
	if len(f.Path) > 0 {
		out += " with a path"
	}
	return out
}

// tellLit is a literal in short; a field that its kind doesn't use is told too, so that it is seen.
func tellLit(l api.Lit) string {
	spot := "@" + at(l.Pos) + " "
	used := api.Lit{Kind: l.Kind, Pos: l.Pos, Text: l.Text}
	out := ""
	switch l.Kind {
	case api.LitVar:
		out = "$" + l.Text + spot
	case api.LitInt:
		out = "i" + l.Text + spot
	case api.LitFloat:
		out = "f" + l.Text + spot
	case api.LitString:
		used.Block = l.Block
		out = map[bool]string{false: "s", true: "k"}[l.Block] + strconv.Quote(l.Text) + spot
	case api.LitBool:
		out = "b" + l.Text + spot
	case api.LitNull:
		used.Text = ""
		out = "null" + spot
	case api.LitEnum:
		out = "e" + l.Text + spot
	case api.LitList:
		used.Text, used.Items = "", l.Items
		out = "[" + spot
		for _, item := range l.Items {
			out += tellLit(item)
		}
		out += "] "
	case api.LitObject:
		used.Text, used.Fields = "", l.Fields
		out = "{" + spot
		for _, f := range l.Fields {
			out += f.Name + "@" + at(f.Pos) + ":" + tellLit(f.Value)
		}
		out += "} "
	default:
		out = "kind " + strconv.Itoa(int(l.Kind))
	}
	if used.Text != l.Text || used.Block != l.Block || len(used.Items) != len(l.Items) || len(used.Fields) != len(l.Fields) {
		out += "with more than its kind uses "
	}
	return out
}

func tellArgs(list []api.Arg) string {
	if len(list) == 0 {
		return ""
	}
	out := "("
	for _, a := range list {
		out += a.Name + "@" + at(a.Pos) + ":" + tellLit(a.Value)
	}
	return out + ") "
}

func tellDirs(list []api.Dir) string {
	out := ""
	for _, d := range list {
		out += "@" + d.Name + "@" + at(d.Pos) + " " + tellArgs(d.Args)
	}
	return out
}

// tellType is a reference to a type in short.
func tellType(r api.TypeRef) string {
	return r.Name + " " + r.Wrap
}

func zeroLit(l api.Lit) bool {
	return l.Kind == 0 && l.Text == "" && !l.Block && len(l.Items) == 0 && len(l.Fields) == 0 && l.Pos == api.Pos{}
}

func tellNote(n api.Note) string {
	switch n {
	case api.Note{}:
		return ""
	case api.Note{Has: true, Text: n.Text}:
		return "s" + strconv.Quote(n.Text) + " "
	case api.Note{Has: true, Block: true, Text: n.Text}:
		return "k" + strconv.Quote(n.Text) + " "
	}
	return "a note that none is "
}

func tellNamed(mark string, list []api.Named) string {
	out := ""
	for _, n := range list {
		out += mark + n.Name + "@" + at(n.Pos) + " "
	}
	return out
}

// listed is what is told of a list's elements, between brackets; of none it is empty.
func listed[E any](left, right string, list []E, tell func(E) string) string {
	if len(list) == 0 {
		return ""
	}
	var out strings.Builder
	for _, element := range list {
		out.WriteString(tell(element))
	}
	return left + " " + out.String() + right + " "
}

func tellInput(d api.InputDef) string {
	out := tellNote(d.Note) + d.Name + "@" + at(d.Pos) + " :" + tellType(d.Type)
	if d.HasDefault {
		out += "=" + tellLit(d.Default)
	} else if !zeroLit(d.Default) {
		out += "with a default that it has not "
	}
	return out + tellDirs(d.Dirs)
}

func tellField(d api.FieldDef) string {
	return tellNote(d.Note) + d.Name + "@" + at(d.Pos) + " " + listed("(", ")", d.Args, tellInput) + ":" + tellType(d.Type) + tellDirs(d.Dirs)
}

func tellValue(d api.ValueDef) string {
	return tellNote(d.Note) + d.Name + "@" + at(d.Pos) + " " + tellDirs(d.Dirs)
}

func tellRoot(d api.RootDef) string {
	words := map[api.DefKind]string{api.DefQuery: "query", api.DefMutation: "mutation", api.DefSubscription: "subscription"}
	return words[d.Op] + "@" + at(d.Pos) + " :" + d.Type + " "
}

// usedOf is a definition without all that its kind doesn't use.
func usedOf(d api.SysDef) api.SysDef {
	used := api.SysDef{Kind: d.Kind, Extend: d.Extend, Note: d.Note, Name: d.Name, Dirs: d.Dirs, Pos: d.Pos}
	switch d.Kind {
	case api.SysSchema:
		used.Name, used.Roots = "", d.Roots
	case api.SysObject, api.SysInterface:
		used.Ifaces, used.Fields = d.Ifaces, d.Fields
	case api.SysUnion:
		used.Members = d.Members
	case api.SysEnum:
		used.Values = d.Values
	case api.SysInput:
		used.Inputs = d.Inputs
	case api.SysDirective:
		used.Extend, used.Dirs = false, nil
		used.Inputs, used.Repeatable, used.Places = d.Inputs, d.Repeatable, d.Places
	}
	if used.Extend {
		used.Note = api.Note{}
	}
	return used
}

// tellDef is a definition in short; that it has what its kind doesn't use is told too, so that it is seen.
func tellDef(d api.SysDef) string {
	out := tellNote(d.Note)
	if d.Extend {
		out += "extend "
	}
	words := []string{"", "schema", "scalar", "type", "interface", "union", "enum", "input", "directive"}
	if d.Kind < 1 || int(d.Kind) >= len(words) {
		return out + "kind " + strconv.Itoa(int(d.Kind))
	}
	out += words[d.Kind]
	if d.Kind != api.SysSchema {
		out += " " + d.Name
	}
	out += "@" + at(d.Pos) + " " + tellNamed("&", d.Ifaces) + tellDirs(d.Dirs)
	out += listed("{", "}", d.Fields, tellField) + listed("{", "}", d.Values, tellValue) + listed("{", "}", d.Roots, tellRoot)
	if d.Kind == api.SysDirective {
		out += listed("(", ")", d.Inputs, tellInput)
	} else {
		out += listed("{", "}", d.Inputs, tellInput)
	}
	if d.Repeatable {
		out += "repeatable "
	}
	out += tellNamed("|", d.Members) + tellNamed("|", d.Places)
	if !reflect.DeepEqual(usedOf(d), d) {
		out += "with more than its kind uses "
	}
	return out
}

// tell is what Parse answers of a source: the definitions in short, or the fault; both, if both were answered.
func tell(src []byte, depth int) string {
	defs, fault := sdl.Parse(src, depth)
	var out strings.Builder
	for _, d := range defs {
		out.WriteString(tellDef(d))
	}
	if fault.Kind != api.OK || len(defs) == 0 {
		out.WriteString(tellFault(fault))
	} else if len(fault.Pos) > 0 || len(fault.Path) > 0 {
		out.WriteString("and a fault without a kind")
	}
	return out.String()
}

func same(t *testing.T, what, got, want string) {
	t.Helper()
	if got != want {
		t.Errorf("%s: got %s, want %s", what, got, want)
	}
}

// want holds what Parse answers against what is wanted, and against the model.
func want(t *testing.T, src string, depth int, want string) {
	t.Helper()
	same(t, "Parse("+strconv.Quote(src)+", "+strconv.Itoa(depth)+")", tell([]byte(src), depth), want)
	checkSource(t, src, depth)
}

// pick is a text of some pieces, taken by chance.
func pick(r *rand.Rand, pieces []string, most int) string {
	var out []string
	for n := r.Intn(most + 1); n > 0; n-- {
		out = append(out, pieces[r.Intn(len(pieces))])
	}
	return strings.Join(out, " ")
}

func col(n int) string { return strconv.Itoa(n) }
