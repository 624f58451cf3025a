package parts_test

import (
	"math/rand"
	"strconv"
	"strings"
	"testing"

	"pergola/api"
	"pergola/parts"
)

// at is a place in short.
func at(p api.Pos) string {
	return strconv.Itoa(p.Line) + ":" + strconv.Itoa(p.Col)
}

// tellFault is a fault in short: its kind and its places; "ok" of none.
func tellFault(f api.Fault) string {
	if f.Kind == api.OK && len(f.Pos) == 0 && len(f.Path) == 0 {
		return "ok"
	}
	kinds := map[api.Errno]string{api.ErrSyntax: "syntax", api.ErrDepth: "depth"}
	out := kinds[f.Kind]
	if out == "" {
		out = "kind " + strconv.Itoa(int(f.Kind))
	}
	for _, p := range f.Pos {
		out += " " + at(p)
	}
	if len(f.Path) > 0 {
		out += " with a path"
	}
	return out
}

// tellToken is a token in short: its kind's letter, its text and its place.
func tellToken(t api.Token) string {
	return string("EBpnifsk"[t.Kind]) + t.Text + "@" + at(t.Pos)
}

func tellNamed(n api.Named) string {
	if n == (api.Named{}) {
		return "no name"
	}
	return n.Name + "@" + at(n.Pos)
}

func tellNote(n api.Note) string {
	switch n {
	case api.Note{}:
		return "no note"
	case api.Note{Has: true, Text: n.Text}:
		return "s" + strconv.Quote(n.Text)
	case api.Note{Has: true, Block: true, Text: n.Text}:
		return "k" + strconv.Quote(n.Text)
	}
	return "a note that none is"
}

func tellType(r api.TypeRef) string {
	if r == (api.TypeRef{}) {
		return ""
	}
	return r.Name + " " + r.Wrap
}

// tellLit is a literal in short; a field that its kind doesn't use is told too, so that it is seen.
func tellLit(l api.Lit) string {
	spot := "@" + at(l.Pos) + " "
	used := api.Lit{Kind: l.Kind, Pos: l.Pos, Text: l.Text}
	out := ""
	switch l.Kind {
	case 0:
		used.Text = ""
	case api.LitVar:
		out = "$" + l.Text + spot
	case api.LitInt:
		out = "i" + l.Text + spot
	case api.LitFloat:
		out = "f" + l.Text + spot
	case api.LitString:
		used.Block = l.Block
		out = map[bool]string{false: "s", true: "k"}[l.Block] + strconv.Quote(l.Text) + spot
	case api.LitBool:
		out = "b" + l.Text + spot
	case api.LitNull:
		used.Text = ""
		out = "null" + spot
	case api.LitEnum:
		out = "e" + l.Text + spot
	case api.LitList:
		used.Text, used.Items = "", l.Items
		out = "[" + spot
		for _, item := range l.Items {
			out += tellLit(item)
		}
		out += "] "
	case api.LitObject:
		used.Text, used.Fields = "", l.Fields
		out = "{" + spot
		for _, f := range l.Fields {
			out += f.Name + "@" + at(f.Pos) + ":" + tellLit(f.Value)
		}
		out += "} "
	default:
		out = "kind " + strconv.Itoa(int(l.Kind))
	}
	if used.Text != l.Text || used.Block != l.Block || len(used.Items) != len(l.Items) || len(used.Fields) != len(l.Fields) || l.Kind == 0 && l.Pos != (api.Pos{}) {
		out += "with more than its kind uses "
	}
	return out
}

func tellArgs(list []api.Arg) string {
	if len(list) == 0 {
		return ""
	}
	out := "("
	for _, a := range list {
		out += a.Name + "@" + at(a.Pos) + ":" + tellLit(a.Value)
	}
	return out + ") "
}

func tellDirs(list []api.Dir) string {
	out := ""
	for _, d := range list {
		out += "@" + d.Name + "@" + at(d.Pos) + " " + tellArgs(d.Args)
	}
	return out
}

// both is what a call told and whether it was so.
func both(told string, ok bool) string {
	return told + "," + strconv.FormatBool(ok)
}

// state is all that looking shows of a cursor.
func state(c *parts.Cursor) string {
	fault, has := c.Fault()
	return tellToken(c.Token()) + " nesting " + strconv.Itoa(c.Nesting()) + " fault " + both(tellFault(fault), has)
}

func same(t *testing.T, what, got, want string) {
	t.Helper()
	if got != want {
		t.Errorf("%s: got %s, want %s", what, got, want)
	}
}

func wantType(t *testing.T, src string, depth int, want string) {
	t.Helper()
	ref, fault := parts.ReadType([]byte(src), depth)
	got := tellType(ref)
	if fault.Kind != api.OK || got == "" {
		got += tellFault(fault)
	}
	same(t, "ReadType("+strconv.Quote(src)+", "+strconv.Itoa(depth)+")", got, want)
	checkSource(t, src, depth)
}

func wantLit(t *testing.T, src string, constant bool, depth int, want string) {
	t.Helper()
	lit, fault := parts.ReadLit([]byte(src), constant, depth)
	got := tellLit(lit)
	if fault.Kind != api.OK || got == "" {
		got += tellFault(fault)
	}
	same(t, "ReadLit("+strconv.Quote(src)+", "+strconv.FormatBool(constant)+", "+strconv.Itoa(depth)+")", got, want)
	checkSource(t, src, depth)
}

// wantArgs holds Args of a new cursor, and the cursor's state behind it, against what is wanted.
func wantArgs(t *testing.T, src string, constant bool, depth int, want, then string) {
	t.Helper()
	c := parts.New([]byte(src), depth)
	list, ok := c.Args(constant)
	same(t, "Args of "+src, both(tellArgs(list), ok), want)
	same(t, "state behind Args of "+src, state(c), then)
	checkSource(t, src, depth)
}

func wantDirs(t *testing.T, src string, constant bool, depth int, want, then string) {
	t.Helper()
	c := parts.New([]byte(src), depth)
	list, ok := c.Dirs(constant)
	same(t, "Dirs of "+src, both(tellDirs(list), ok), want)
	same(t, "state behind Dirs of "+src, state(c), then)
	checkSource(t, src, depth)
}

// pick is a text of some pieces, taken by chance.
func pick(r *rand.Rand, pieces []string, most int) string {
	var out []string
	for n := r.Intn(most + 1); n > 0; n-- {
		out = append(out, pieces[r.Intn(len(pieces))])
	}
	return strings.Join(out, " ")
}
