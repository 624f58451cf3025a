package query_test

import (
	"math/rand"
	"strconv"
	"strings"
	"testing"

	"pergola/api"
	"pergola/query"
)

// at is a place in short.
func at(p api.Pos) string {
	return strconv.Itoa(p.Line) + ":" + strconv.Itoa(p.Col)
}

// tellFault is a fault in short: its kind and its places; "ok" of none.
func tellFault(f api.Fault) string {
	if f.Kind == api.OK && len(f.Pos) == 0 && len(f.Path) == 0 {
		return "ok"
	}
	kinds := map[api.Errno]string{api.ErrSyntax: "syntax", api.ErrDepth: "depth"}
	out := kinds[f.Kind]
	if out == "" {
		out = "kind " + strconv.Itoa(int(f.Kind))
	}
	for _, p := range f.Pos {
		out += " " + at(p)
	}
	if len(f.Path) > 0 {
		out += " with a path"
	}
	return out
}

// tellLit is a literal in short; a field that its kind doesn't use is told too, so that it is seen.
func tellLit(l api.Lit) string {
	spot := "@" + at(l.Pos) + " "
	used := api.Lit{Kind: l.Kind, Pos: l.Pos, Text: l.Text}
	out := ""
	switch l.Kind {
	case api.LitVar:
		out = "$" + l.Text + spot
	case api.LitInt:
		out = "i" + l.Text + spot
	case api.LitFloat:
		out = "f" + l.Text + spot
	case api.LitString:
		used.Block = l.Block
		out = map[bool]string{false: "s", true: "k"}[l.Block] + strconv.Quote(l.Text) + spot
	case api.LitBool:
		out = "b" + l.Text + spot
	case api.LitNull:
		used.Text = ""
		out = "null" + spot
	case api.LitEnum:
		out = "e" + l.Text + spot
	case api.LitList:
		used.Text, used.Items = "", l.Items
		out = "[" + spot
		for _, item := range l.Items {
			out += tellLit(item)
		}
		out += "] "
	case api.LitObject:
		used.Text, used.Fields = "", l.Fields
		out = "{" + spot
		for _, f := range l.Fields {
			out += f.Name + "@" + at(f.Pos) + ":" + tellLit(f.Value)
		}
		out += "} "
	default:
		out = "kind " + strconv.Itoa(int(l.Kind))
	}
	if used.Text != l.Text || used.Block != l.Block || len(used.Items) != len(l.Items) || len(used.Fields) != len(l.Fields) {
		out += "with more than its kind uses "
	}
	return out
}

func tellArgs(list []api.Arg) string {
	if len(list) == 0 {
		return ""
	}
	out := "("
	for _, a := range list {
		out += a.Name + "@" + at(a.Pos) + ":" + tellLit(a.Value)
	}
	return out + ") "
}

func tellDirs(list []api.Dir) string {
	out := ""
	for _, d := range list {
		out += "@" + d.Name + "@" + at(d.Pos) + " " + tellArgs(d.Args)
	}
	return out
}

func tellVars(list []api.VarDef) string {
	if len(list) == 0 {
		return ""
	}
	out := "("
	for _, v := range list {
		out += "$" + v.Name + "@" + at(v.Pos) + ":" + v.Type.Name + " " + v.Type.Wrap
		if v.HasDefault {
			out += "=" + tellLit(v.Default)
		} else if !zeroLit(v.Default) {
			out += "with a default that it has not "
		}
		out += tellDirs(v.Dirs)
	}
	return out + ") "
}

func zeroLit(l api.Lit) bool {
	return l.Kind == 0 && l.Text == "" && !l.Block && len(l.Items) == 0 && len(l.Fields) == 0 && l.Pos == api.Pos{}
}

// tellSel is a selection in short; a field that its kind doesn't use is told too, so that it is seen.
func tellSel(s api.Sel) string {
	used := api.Sel{}
	out := ""
	switch s.Kind {
	case api.SelField:
		used = s
		used.On = ""
		if s.Alias == "" {
			out = s.Name + "@" + at(s.Pos) + " "
		} else {
			out = s.Alias + "@" + at(s.Pos) + " :" + s.Name + " "
		}
	case api.SelSpread:
		used.Name = s.Name
		out = "...@" + at(s.Pos) + " =" + s.Name + " "
	case api.SelInline:
		used.On, used.Sels = s.On, s.Sels
		out = "...@" + at(s.Pos) + " all "
		if s.On != "" {
			out = "...@" + at(s.Pos) + " on " + s.On + " "
		}
	default:
		out = "kind " + strconv.Itoa(int(s.Kind))
	}
	out += tellArgs(s.Args) + tellDirs(s.Dirs)
	if s.Kind == api.SelInline || len(s.Sels) > 0 {
		out += tellSels(s.Sels)
	}
	if used.Alias != s.Alias || used.Name != s.Name || used.On != s.On || len(used.Args) != len(s.Args) || len(used.Sels) != len(s.Sels) {
		out += "with more than its kind uses "
	}
	return out
}

func tellSels(list []api.Sel) string {
	var out strings.Builder
	for _, s := range list {
		out.WriteString(tellSel(s))
	}
	return "{ " + out.String() + "} "
}

// tellDef is a definition in short; a field that its kind doesn't use is told too, so that it is seen.
func tellDef(d api.Def) string {
	words := map[api.DefKind]string{api.DefQuery: "query", api.DefMutation: "mutation", api.DefSubscription: "subscription", api.DefFragment: "fragment"}
	out := words[d.Kind]
	if out == "" {
		out = "kind " + strconv.Itoa(int(d.Kind))
	}
	if d.Short {
		out = strings.TrimPrefix(out+"-short", "query-")
	}
	out += "@" + at(d.Pos) + " "
	if d.Name != "" {
		out += d.Name + " "
	}
	if d.On != "" {
		out += "on " + d.On + " "
	}
	return out + tellVars(d.Vars) + tellDirs(d.Dirs) + tellSels(d.Sels)
}

// tell is what Parse answers of a source: the document in short, or the fault; both, if both were answered.
func tell(src []byte, depth int) string {
	doc, fault := query.Parse(src, depth)
	var out strings.Builder
	for _, d := range doc.Defs {
		out.WriteString(tellDef(d))
	}
	if fault.Kind != api.OK || len(doc.Defs) == 0 {
		out.WriteString(tellFault(fault))
	} else if len(fault.Pos) > 0 || len(fault.Path) > 0 {
		out.WriteString("and a fault without a kind")
	}
	return out.String()
}

func same(t *testing.T, what, got, want string) {
	t.Helper()
	if got != want {
		t.Errorf("%s: got %s, want %s", what, got, want)
	}
}

// want holds what Parse answers against what is wanted, and against the model.
func want(t *testing.T, src string, depth int, want string) {
	t.Helper()
	same(t, "Parse("+strconv.Quote(src)+", "+strconv.Itoa(depth)+")", tell([]byte(src), depth), want)
	checkSource(t, src, depth)
}

// pick is a text of some pieces, taken by chance.
func pick(r *rand.Rand, pieces []string, most int) string {
	var out []string
	for n := r.Intn(most + 1); n > 0; n-- {
		out = append(out, pieces[r.Intn(len(pieces))])
	}
	return strings.Join(out, " ")
}

func col(n int) string { return strconv.Itoa(n) }
