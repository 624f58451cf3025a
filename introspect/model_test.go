package introspect_test

import (
	"slices"
	"strings"
	"testing"

	"pergola/api"
	"pergola/introspect"
	"pergola/printer"
	"pergola/typesys"
)

// model says the chapter a second time, the other way round: it goes through all definitions ahead of any question and writes down every handle, with what each of its fields answers. Only references with a wrap have no end; they are taken apart mark by mark.
type model struct {
	types *typesys.Types
	pages map[string]page // by a handle, told as Type:own
	asked []string        // the fields that each handle is asked for
}

// page is what the fields of a handle answer, told: by field, and the same where the deprecated are asked for too.
type page struct {
	usual, all map[string]string
}

func newModel(t testing.TB, types *typesys.Types) *model {
	m := &model{types, map[string]page{}, otherNames(t)}
	slices.Sort(m.asked)
	m.asked = slices.Compact(m.asked)
	m.schema()
	for _, name := range types.Names() {
		d, _ := types.Type(name)
		m.typ(d)
		for _, f := range d.Fields {
			m.field(name, f)
		}
		for _, v := range d.Values {
			m.put("__EnumValue:"+name+"."+v.Name, append(m.deprecation(v.Dirs), "name", quoted(v.Name), "description", noted(v.Note))...)
		}
		m.inputs(name+".", "", d.Inputs)
	}
	for _, name := range types.Directives() {
		d, _ := types.Directive(name)
		var places []string
		for _, p := range d.Places {
			places = append(places, quoted(p.Name))
		}
		args := m.inputs("@"+name+"(", ")", d.Inputs)
		m.put("__Directive:@"+name, "name", quoted(name), "description", noted(d.Note), "locations", listed(places), "args", args, "isRepeatable", yesNo(d.Repeatable))
	}
	return m
}

func quoted(s string) string { return "'" + s + "'" }

func listed(all []string) string { return "[" + strings.Join(all, " ") + "]" }

func yesNo(is bool) string {
	if is {
		return "true"
	}
	return "false"
}

func noted(n api.Note) string {
	if n.Has {
		return quoted(n.Text)
	}
	return "null"
}

// put writes a page down: fields and answers, in turn; a field with + answers so where the deprecated are asked for too.
func (m *model) put(handle string, pairs ...string) {
	p := page{map[string]string{}, map[string]string{}}
	for i := 0; i < len(pairs); i += 2 {
		if field, ok := strings.CutSuffix(pairs[i], "+"); ok {
			p.all[field] = pairs[i+1]
		} else {
			p.usual[pairs[i]] = pairs[i+1]
		}
	}
	m.pages[handle] = p
}

func (m *model) schema() {
	root := func(op api.DefKind) string {
		if name := m.types.Root(op); slices.Contains(m.types.Names(), name) {
			return "__Type:" + name
		}
		return "null"
	}
	m.put("__Schema:", "description", noted(m.types.Schema().Note), "types", handles("__Type", "", strings.Join(m.types.Names(), " ")),
		"queryType", root(api.DefQuery), "mutationType", root(api.DefMutation), "subscriptionType", root(api.DefSubscription),
		"directives", handles("__Directive", "@", strings.Join(m.types.Directives(), " ")))
}

func (m *model) typ(d api.SysDef) {
	pairs := []string{"name", quoted(d.Name), "description", noted(d.Note), "ofType", "null"}
	for _, field := range []string{"specifiedByURL", "fields", "interfaces", "possibleTypes", "enumValues", "inputFields"} {
		pairs = append(pairs, field, "null") // unless it comes again
	}
	put := func(more ...string) { pairs = append(pairs, more...) }
	switch d.Kind {
	case api.SysScalar:
		put("kind", "'SCALAR'")
		for _, use := range d.Dirs {
			if use.Name == "specifiedBy" {
				put("specifiedByURL", quoted(use.Args[0].Value.Text))
			}
		}
	case api.SysObject, api.SysInterface:
		put("kind", "'OBJECT'")
		if d.Kind == api.SysInterface {
			put("kind", "'INTERFACE'", "possibleTypes", m.objects(d))
		}
		var usual, all, ifaces []string
		for _, f := range d.Fields {
			all = append(all, f.Name)
			if !m.isDeprecated(f.Dirs) {
				usual = append(usual, f.Name)
			}
		}
		for _, iface := range d.Ifaces {
			ifaces = append(ifaces, iface.Name)
		}
		put("fields", handles("__Field", d.Name+".", strings.Join(usual, " ")), "fields+", handles("__Field", d.Name+".", strings.Join(all, " ")), "interfaces", handles("__Type", "", strings.Join(ifaces, " ")))
	case api.SysUnion:
		put("kind", "'UNION'", "possibleTypes", m.objects(d))
	case api.SysEnum:
		put("kind", "'ENUM'")
		var usual, all []string
		for _, v := range d.Values {
			all = append(all, v.Name)
			if !m.isDeprecated(v.Dirs) {
				usual = append(usual, v.Name)
			}
		}
		put("enumValues", handles("__EnumValue", d.Name+".", strings.Join(usual, " ")), "enumValues+", handles("__EnumValue", d.Name+".", strings.Join(all, " ")))
	case api.SysInput:
		put("kind", "'INPUT_OBJECT'", "inputFields", m.inputs(d.Name+".", "", d.Inputs))
	}
	m.put("__Type:"+d.Name, pairs...)
}

// objects are the handles of the objects that an interface or a union stands for.
func (m *model) objects(d api.SysDef) string {
	var out []string
	for _, name := range m.types.Names() {
		object, _ := m.types.Type(name)
		names := func(n api.Named) bool { return n.Name == d.Name }
		if object.Kind == api.SysObject && slices.ContainsFunc(object.Ifaces, names) {
			out = append(out, name)
		}
	}
	for _, member := range d.Members {
		out = append(out, member.Name)
	}
	return handles("__Type", "", strings.Join(out, " "))
}

func (m *model) isDeprecated(dirs []api.Dir) bool {
	return slices.ContainsFunc(dirs, func(d api.Dir) bool { return d.Name == "deprecated" })
}

func (m *model) deprecation(dirs []api.Dir) []string {
	for _, d := range dirs {
		switch {
		case d.Name != "deprecated":
		case len(d.Args) == 0:
			return []string{"isDeprecated", "true", "deprecationReason", "'No longer supported'"}
		case d.Args[0].Value.Kind == api.LitNull:
			return []string{"isDeprecated", "true", "deprecationReason", "null"}
		default:
			return []string{"isDeprecated", "true", "deprecationReason", quoted(d.Args[0].Value.Text)}
		}
	}
	return []string{"isDeprecated", "false", "deprecationReason", "null"}
}

func (m *model) field(owner string, f api.FieldDef) {
	args := m.inputs(owner+"."+f.Name+"(", ")", f.Args)
	m.put("__Field:"+owner+"."+f.Name, append(m.deprecation(f.Dirs), "name", quoted(f.Name), "description", noted(f.Note), "args", args, "type", "__Type:"+bracketed(f.Type))...)
}

// inputs writes down inputs whose names stand between two texts, and answers their handles.
func (m *model) inputs(ahead, behind string, inputs []api.InputDef) string {
	var all []string
	for _, d := range inputs {
		preset := "null"
		if d.HasDefault {
			preset = quoted(printer.Lit(d.Default))
		}
		handle := "__InputValue:" + ahead + d.Name + behind
		m.put(handle, "name", quoted(d.Name), "description", noted(d.Note), "type", "__Type:"+bracketed(d.Type), "defaultValue", preset)
		all = append(all, handle)
	}
	return listed(all)
}

// bracketed writes a reference mark by mark, from the outside in.
func bracketed(r api.TypeRef) string {
	if wrap, ok := strings.CutSuffix(r.Wrap, "!"); ok {
		return bracketed(api.TypeRef{Name: r.Name, Wrap: wrap}) + "!"
	}
	if wrap, ok := strings.CutSuffix(r.Wrap, "]"); ok {
		return "[" + bracketed(api.TypeRef{Name: r.Name, Wrap: wrap}) + "]"
	}
	return r.Name
}

// inner is a written reference without its outermost mark.
func inner(own string) (inside, kind string) {
	if rest, ok := strings.CutSuffix(own, "!"); ok && !strings.HasSuffix(rest, "!") {
		return rest, "NON_NULL"
	}
	if len(own) > 1 && own[0] == '[' && own[len(own)-1] == ']' {
		return own[1 : len(own)-1], "LIST"
	}
	return "", ""
}

// page is what a handle's fields answer; nil if it is no known one.
func (m *model) page(typ, own string) *page {
	if p, ok := m.pages[typ+":"+own]; ok {
		return &p
	}
	inside, kind := inner(own)
	if typ != "__Type" || kind == "" || m.page(typ, inside) == nil {
		return nil
	}
	p := page{map[string]string{}, nil}
	for field := range m.pages["__Type:Int"].usual {
		p.usual[field] = "null"
	}
	p.usual["kind"], p.usual["ofType"] = quoted(kind), "__Type:"+inside
	return &p
}

// ask is what a field answers, told; nothing, if there is no page.
func (p *page) ask(field string, all bool) string {
	if p == nil {
		return nothing
	}
	if answer, ok := p.all[field]; ok && all {
		return answer
	}
	if answer, ok := p.usual[field]; ok {
		return answer
	}
	return nothing
}

// hold holds all fields of a handle against the model, and says whether it is a known one.
func (m *model) hold(t testing.TB, typ, own string) bool {
	t.Helper()
	p := m.page(typ, own)
	for _, field := range m.asked {
		for _, all := range []bool{false, true} {
			got, want := told(introspect.Field(m.types, handle(typ, own), field, arg("includeDeprecated", truth(all)))), p.ask(field, all)
			if got != want {
				t.Fatalf("%s:%q %s, deprecated too: %v:\ngot  %s\nwant %s", typ, own, field, all, got, want)
			}
		}
	}
	return p != nil
}

// holdKnown holds all handles of the model, and the types of each with a few wraps.
func (m *model) holdKnown(t testing.TB) {
	t.Helper()
	for known := range m.pages {
		typ, own, _ := strings.Cut(known, ":")
		if !m.hold(t, typ, own) {
			t.Fatal("not known to the model:", known)
		}
		if typ == "__Type" {
			for _, wrap := range []string{"!", "]", "!]", "]!", "]]", "!]!", "!]!]!", "]!]]"} {
				m.hold(t, typ, bracketed(api.TypeRef{Name: own, Wrap: wrap}))
			}
		}
	}
}
