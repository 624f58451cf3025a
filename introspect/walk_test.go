package introspect_test

import (
	"slices"
	"strings"
	"testing"

	"pergola/api"
	"pergola/introspect"
	"pergola/parts"
	"pergola/typesys"
)

// walker follows all handles that are answered, from the query root's own fields on.
type walker struct {
	t     testing.TB
	types *typesys.Types
	seen  map[string]int
}

// fits: is it a value of that type, as chapter 12 defines the introspection types?
func (w *walker) fits(v api.Value, r api.TypeRef) bool {
	if bare, ok := typesys.Bare(r); ok {
		return v.Kind != api.KindNull && w.fits(v, bare)
	}
	if v.Kind == api.KindNull {
		return told(v, true) == "null"
	}
	if item, ok := typesys.Item(r); ok {
		return v.Kind == api.KindList && !slices.ContainsFunc(v.Items, func(v api.Value) bool { return !w.fits(v, item) })
	}
	def, _ := w.types.Type(r.Name)
	switch {
	case def.Kind == api.SysObject:
		return v.Kind == api.KindHandle && v.Type == r.Name
	case def.Kind == api.SysEnum:
		return v.Kind == api.KindString && slices.ContainsFunc(def.Values, func(d api.ValueDef) bool { return d.Name == v.Text })
	case r.Name == "Boolean":
		return v.Kind == api.KindBool
	}
	return r.Name == "String" && v.Kind == api.KindString
}

func (w *walker) follow(v api.Value) {
	for _, item := range v.Items {
		w.follow(item)
	}
	key := v.Type + ":" + v.Text
	if v.Kind != api.KindHandle || w.seen[key] > 0 {
		return
	}
	w.seen[key]++
	def, _ := w.types.Type(v.Type)
	for _, f := range def.Fields {
		answer, ok := introspect.Field(w.types, v, f.Name, deprecatedToo())
		if !ok || !w.fits(answer, f.Type) || strings.HasSuffix(told(answer, ok), "has") {
			w.t.Fatalf("%s %s: %s is none of the type %v", key, f.Name, told(answer, ok), f.Type)
		}
		w.follow(answer)
	}
}

// P15.2 to P15.6: whatever is answered is of the type that chapter 12 gives the field, and each handle that is answered is a known one; all known ones without a wrap are come to from the schema.
func TestWalk(t *testing.T) {
	sources := []string{kinds, handled}
	for seed := range int64(60) {
		sources = append(sources, makeSource(seed))
	}
	for _, src := range sources {
		w := &walker{t, sound(t, src), map[string]int{}}
		schema, _ := introspect.Root(w.types, "__schema", nil)
		w.follow(schema)
		m := newModel(t, w.types)
		for known := range m.pages {
			if w.seen[known] == 0 {
				t.Errorf("%s is not come to in %.300q", known, src)
			}
		}
		for key := range w.seen {
			typ, own, _ := strings.Cut(key, ":")
			if m.page(typ, own) == nil {
				t.Errorf("%s is come to in %.300q, and is no known one", key, src)
			}
		}
	}
}

// client makes definitions of nothing but what introspection answers.
type client struct {
	t     testing.TB
	types *typesys.Types
}

func (c client) ask(v api.Value, field string) api.Value {
	answer, ok := introspect.Field(c.types, v, field, deprecatedToo())
	if !ok {
		c.t.Fatal("nothing:", v.Type, v.Text, field)
	}
	return answer
}

func (c client) note(v api.Value) api.Note {
	d := c.ask(v, "description")
	return api.Note{Has: d.Kind == api.KindString, Text: d.Text}
}

func (c client) ref(v api.Value) api.TypeRef {
	switch c.ask(v, "kind").Text {
	case "LIST":
		inner := c.ref(c.ask(v, "ofType"))
		return api.TypeRef{Name: inner.Name, Wrap: inner.Wrap + "]"}
	case "NON_NULL":
		inner := c.ref(c.ask(v, "ofType"))
		return api.TypeRef{Name: inner.Name, Wrap: inner.Wrap + "!"}
	}
	return api.TypeRef{Name: c.ask(v, "name").Text}
}

func (c client) inputs(list api.Value) []api.InputDef {
	var out []api.InputDef
	for _, v := range list.Items {
		d := api.InputDef{Note: c.note(v), Name: c.ask(v, "name").Text, Type: c.ref(c.ask(v, "type"))}
		if preset := c.ask(v, "defaultValue"); preset.Kind == api.KindString {
			lit, fault := parts.ReadLit([]byte(preset.Text), true, api.MostDepth)
			if fault.Kind != api.OK {
				c.t.Fatal("no literal:", preset.Text)
			}
			d.HasDefault, d.Default = true, lit
		}
		out = append(out, d)
	}
	return out
}

// dirs is the directive deprecated, with its reason always told, if something is deprecated.
func (c client) dirs(v api.Value) []api.Dir {
	if !c.ask(v, "isDeprecated").Bool {
		return nil
	}
	reason := api.Lit{Kind: api.LitNull}
	if told := c.ask(v, "deprecationReason"); told.Kind == api.KindString {
		reason = api.Lit{Kind: api.LitString, Text: told.Text}
	}
	return []api.Dir{{Name: "deprecated", Args: []api.Arg{{Name: "reason", Value: reason}}}}
}

func (c client) names(list api.Value) []api.Named {
	var out []api.Named
	for _, v := range list.Items {
		if v.Kind == api.KindHandle {
			v = c.ask(v, "name")
		}
		out = append(out, api.Named{Name: v.Text})
	}
	return out
}

func (c client) typ(v api.Value) api.SysDef {
	kinds := map[string]api.SysKind{"SCALAR": api.SysScalar, "OBJECT": api.SysObject, "INTERFACE": api.SysInterface, "UNION": api.SysUnion, "ENUM": api.SysEnum, "INPUT_OBJECT": api.SysInput}
	d := api.SysDef{Kind: kinds[c.ask(v, "kind").Text], Note: c.note(v), Name: c.ask(v, "name").Text, Ifaces: c.names(c.ask(v, "interfaces")), Inputs: c.inputs(c.ask(v, "inputFields"))}
	if url := c.ask(v, "specifiedByURL"); url.Kind == api.KindString {
		d.Dirs = []api.Dir{{Name: "specifiedBy", Args: []api.Arg{{Name: "url", Value: api.Lit{Kind: api.LitString, Text: url.Text}}}}}
	}
	for _, f := range c.ask(v, "fields").Items {
		d.Fields = append(d.Fields, api.FieldDef{Note: c.note(f), Name: c.ask(f, "name").Text, Args: c.inputs(c.ask(f, "args")), Type: c.ref(c.ask(f, "type")), Dirs: c.dirs(f)})
	}
	for _, value := range c.ask(v, "enumValues").Items {
		d.Values = append(d.Values, api.ValueDef{Note: c.note(value), Name: c.ask(value, "name").Text, Dirs: c.dirs(value)})
	}
	if d.Kind == api.SysUnion {
		d.Members = c.names(c.ask(v, "possibleTypes"))
	}
	return d
}

func (c client) directive(v api.Value) api.SysDef {
	return api.SysDef{Kind: api.SysDirective, Note: c.note(v), Name: c.ask(v, "name").Text, Inputs: c.inputs(c.ask(v, "args")), Repeatable: c.ask(v, "isRepeatable").Bool, Places: c.names(c.ask(v, "locations"))}
}

func (c client) schema(v api.Value) api.SysDef {
	d := api.SysDef{Kind: api.SysSchema, Note: c.note(v)}
	for i, field := range []string{"queryType", "mutationType", "subscriptionType"} {
		if root := c.ask(v, field); root.Kind == api.KindHandle {
			d.Roots = append(d.Roots, api.RootDef{Op: api.DefKind(i + 1), Type: c.ask(root, "name").Text})
		}
	}
	return d
}

// knownDirs are those of the uses of directives that introspection tells of, a reason that isn't there told.
func knownDirs(dirs []api.Dir) []api.Dir {
	var out []api.Dir
	for _, d := range dirs {
		if d.Name == "deprecated" && len(d.Args) == 0 {
			d.Args = []api.Arg{{Name: "reason", Value: api.Lit{Kind: api.LitString, Text: "No longer supported"}}}
		}
		if d.Name == "deprecated" || d.Name == "specifiedBy" {
			out = append(out, d)
		}
	}
	return out
}

// known is a definition without that of which introspection doesn't tell: places, other directives, how a description is written.
func known(d api.SysDef) api.SysDef {
	d = unplaced(d)
	d.Dirs, d.Note.Block = knownDirs(d.Dirs), false
	inputs := func(list []api.InputDef) {
		for i := range list {
			list[i].Dirs, list[i].Note.Block = nil, false
		}
	}
	inputs(d.Inputs)
	for i := range d.Fields {
		inputs(d.Fields[i].Args)
		d.Fields[i].Dirs, d.Fields[i].Note.Block = knownDirs(d.Fields[i].Dirs), false
	}
	for i := range d.Values {
		d.Values[i].Dirs, d.Values[i].Note.Block = knownDirs(d.Values[i].Dirs), false
	}
	return d
}

// P15.1 to P15.8: out of what introspection answers the whole type system can be made again, but for what it doesn't tell.
func TestMadeAgain(t *testing.T) {
	for seed := range int64(60) {
		types := sound(t, makeSource(seed))
		c := client{t, types}
		schema, _ := introspect.Root(types, "__schema", nil)
		alike(t, "the schema", c.schema(schema), known(types.Schema()))
		names, directives := types.Names(), types.Directives()
		for i, v := range c.ask(schema, "types").Items {
			def, _ := types.Type(names[i])
			alike(t, names[i], unplaced(c.typ(v)), known(def))
			asked, _ := introspect.Root(types, "__type", arg("name", text(names[i])))
			alike(t, "__type "+names[i], asked, v)
		}
		for i, v := range c.ask(schema, "directives").Items {
			def, _ := types.Directive(directives[i])
			alike(t, "@"+directives[i], unplaced(c.directive(v)), known(def))
		}
	}
}
