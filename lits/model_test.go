package lits_test

import (
	"cmp"
	"fmt"
	"slices"
	"strconv"
	"strings"
	"testing"

	"pergola/api"
	"pergola/lits"
	"pergola/typesys"
)

// model holds literals against types in another way: it lays out all literals with all places at which they stand, then goes through the list once for each row of the chapter's table; values are made of memoized defaults, whose parts are counted apart.
type model struct {
	types    *typesys.Types
	defaults map[string]*outcome
}

// standing is a literal at a place.
type standing struct {
	lit api.Lit
	at  api.TypeRef
}

// outcome is a value with the number of its parts, if there is one; of a default that is being made there is none, for it needs itself.
type outcome struct {
	value api.Value
	count int
	ok    bool
}

func newModel(types *typesys.Types) *model {
	return &model{types, map[string]*outcome{}}
}

func (m *model) open(r api.TypeRef) bool { return r.Name == "" || !m.types.Input(r.Name) }

// named is the definition of a place's type, if the type is named and not open.
func (m *model) named(r api.TypeRef) (api.SysDef, bool) {
	if m.open(r) || r.Wrap != "" {
		return api.SysDef{}, false
	}
	return m.types.Type(r.Name)
}

func custom(d api.SysDef) bool {
	return d.Kind == api.SysScalar && !slices.Contains([]string{"Int", "Float", "String", "Boolean", "ID"}, d.Name)
}

// inputOf is the first field of a name.
func inputOf(d api.SysDef, name string) (api.InputDef, bool) {
	for _, input := range d.Inputs {
		if input.Name == name {
			return input, true
		}
	}
	return api.InputDef{}, false
}

// standings are a literal and all its parts, each at all its places.
func (m *model) standings(v api.Lit, at api.TypeRef) []standing {
	all := []standing{{v, at}}
	for i := 0; i < len(all); i++ {
		all = append(all, m.follow(all[i].lit, all[i].at)...)
	}
	return all
}

// follow: where a literal stands besides, and where its parts stand.
func (m *model) follow(v api.Lit, at api.TypeRef) []standing {
	if bare, ok := typesys.Bare(at); ok && !m.open(at) {
		if v.Kind == api.LitNull {
			return nil
		}
		return []standing{{v, bare}}
	}
	item, isList := typesys.Item(at)
	if isList && !m.open(at) && v.Kind != api.LitList {
		if v.Kind == api.LitNull || v.Kind == api.LitVar {
			return nil
		}
		return []standing{{v, item}}
	}
	var out []standing
	def, _ := m.named(at)
	inner := api.TypeRef{}
	if isList && !m.open(at) {
		inner = item
	} else if custom(def) {
		inner = at
	}
	if v.Kind == api.LitList {
		for _, part := range v.Items {
			out = append(out, standing{part, inner})
		}
	}
	if v.Kind == api.LitObject {
		for _, f := range v.Fields {
			place := inner
			if input, ok := inputOf(def, f.Name); ok && def.Kind == api.SysInput {
				place = input.Type
			}
			out = append(out, standing{f.Value, place})
		}
	}
	return out
}

// wholeText: is it the text of a whole number of 64 bits? Literals have no leading noughts and no +.
func wholeText(text string) (int64, bool) {
	n, err := strconv.ParseInt(text, 10, 64)
	return n, err == nil
}

func floatText(text string) (float64, bool) {
	f, err := strconv.ParseFloat(text, 64)
	return f, err == nil
}

func taken(d api.SysDef, v api.Lit) bool {
	n, isWhole := wholeText(v.Text)
	isWhole = isWhole && v.Kind == api.LitInt
	_, isFinite := floatText(v.Text)
	isNumber := v.Kind == api.LitInt || v.Kind == api.LitFloat
	switch {
	case d.Kind == api.SysInput:
		return v.Kind == api.LitObject
	case d.Kind == api.SysEnum:
		return v.Kind == api.LitEnum && slices.ContainsFunc(d.Values, func(x api.ValueDef) bool { return x.Name == v.Text })
	case d.Name == "Int":
		return isWhole && n == int64(int32(n))
	case d.Name == "Float":
		return isNumber && isFinite
	case d.Name == "String":
		return v.Kind == api.LitString
	case d.Name == "Boolean":
		return v.Kind == api.LitBool
	case d.Name == "ID":
		return v.Kind == api.LitString || isWhole
	}
	return !isNumber || isFinite
}

func fault(kind api.Errno, places ...api.Pos) api.Fault { return api.Fault{Kind: kind, Pos: places} }

func (m *model) ofNull(s standing) []api.Fault {
	if s.lit.Kind == api.LitNull && strings.HasSuffix(s.at.Wrap, "!") && !m.open(s.at) {
		return []api.Fault{fault(api.ErrValue, s.lit.Pos)}
	}
	return nil
}

func (m *model) ofTaken(s standing) []api.Fault {
	def, ok := m.named(s.at)
	if s.lit.Kind != api.LitNull && s.lit.Kind != api.LitVar && ok && !taken(def, s.lit) {
		return []api.Fault{fault(api.ErrValue, s.lit.Pos)}
	}
	return nil
}

// input is the input type at whose place an object stands.
func (m *model) input(s standing) (api.SysDef, bool) {
	def, ok := m.named(s.at)
	return def, ok && def.Kind == api.SysInput && s.lit.Kind == api.LitObject
}

func (m *model) ofFieldNone(s standing) []api.Fault {
	var out []api.Fault
	if def, ok := m.input(s); ok {
		for _, f := range s.lit.Fields {
			if _, ok := inputOf(def, f.Name); !ok {
				out = append(out, fault(api.ErrInFieldNone, f.Pos))
			}
		}
	}
	return out
}

func (m *model) ofFieldSame(s standing) []api.Fault {
	var out []api.Fault
	if s.lit.Kind != api.LitObject {
		return nil
	}
	for _, f := range s.lit.Fields {
		var places []api.Pos
		for _, g := range s.lit.Fields {
			if g.Name == f.Name {
				places = append(places, g.Pos)
			}
		}
		if len(places) > 1 {
			out = append(out, fault(api.ErrInFieldSame, places...))
		}
	}
	return out
}

func (m *model) ofFieldMissing(s standing) []api.Fault {
	def, ok := m.input(s)
	if !ok {
		return nil
	}
	for i, input := range def.Inputs {
		first := !slices.ContainsFunc(def.Inputs[:i], func(x api.InputDef) bool { return x.Name == input.Name })
		borne := slices.ContainsFunc(s.lit.Fields, func(f api.LitField) bool { return f.Name == input.Name })
		if first && !borne && strings.HasSuffix(input.Type.Wrap, "!") && !input.HasDefault {
			return []api.Fault{fault(api.ErrInFieldMissing, s.lit.Pos)}
		}
	}
	return nil
}

func (m *model) check(v api.Lit, want api.TypeRef) []api.Fault {
	all := m.standings(v, want)
	var out []api.Fault
	for _, row := range []func(standing) []api.Fault{m.ofNull, m.ofTaken, m.ofFieldNone, m.ofFieldSame, m.ofFieldMissing} {
		for _, s := range all {
			out = append(out, row(s)...)
		}
	}
	slices.SortFunc(out, func(a, b api.Fault) int {
		return cmp.Or(cmp.Compare(a.Kind, b.Kind), slices.CompareFunc(a.Pos, b.Pos, func(p, q api.Pos) int {
			return cmp.Or(cmp.Compare(p.Line, q.Line), cmp.Compare(p.Col, q.Col))
		}))
	})
	return slices.CompactFunc(out, func(a, b api.Fault) bool { return fmt.Sprint(a) == fmt.Sprint(b) })
}

func (m *model) constant(v api.Lit, want api.TypeRef) (api.Value, bool) {
	if made := m.outcome(v, want); made.ok {
		return made.value, true
	}
	return api.Value{}, false
}

func (m *model) outcome(v api.Lit, want api.TypeRef) outcome {
	if slices.ContainsFunc(m.standings(v, want), func(s standing) bool { return s.lit.Kind == api.LitVar || m.open(s.at) }) || len(m.check(v, want)) > 0 {
		return outcome{}
	}
	made := m.make(v, want)
	if made.count > api.MostParts {
		return outcome{}
	}
	return made
}

// make makes the value of a literal that is right but, it may be, too great.
func (m *model) make(v api.Lit, at api.TypeRef) outcome {
	at, _ = typesys.Bare(at)
	if v.Kind == api.LitNull {
		return outcome{api.Value{}, 1, true}
	}
	if item, ok := typesys.Item(at); ok {
		if v.Kind == api.LitList {
			return m.gather(v.Items, item)
		}
		return m.gather([]api.Lit{v}, item)
	}
	def, _ := m.named(at)
	switch {
	case v.Kind == api.LitList:
		return m.gather(v.Items, at)
	case def.Kind == api.SysInput:
		return m.fill(v, def)
	case v.Kind == api.LitObject:
		object, count := api.Value{Kind: api.KindObject}, 1
		for _, f := range v.Fields {
			one := m.make(f.Value, at)
			object.Fields = append(object.Fields, api.Member{Name: f.Name, Value: one.value})
			count += one.count
		}
		return outcome{object, count, true}
	}
	return outcome{single(v, def.Name), 1, true}
}

func (m *model) gather(items []api.Lit, at api.TypeRef) outcome {
	out := outcome{api.Value{Kind: api.KindList}, 1, true}
	for _, item := range items {
		one := m.make(item, at)
		out.value.Items = append(out.value.Items, one.value)
		out.count, out.ok = min(out.count+one.count, 1<<40), out.ok && one.ok
	}
	return out
}

func (m *model) fill(v api.Lit, def api.SysDef) outcome {
	out := outcome{api.Value{Kind: api.KindObject}, 1, true}
	for i, input := range def.Inputs {
		if slices.ContainsFunc(def.Inputs[:i], func(x api.InputDef) bool { return x.Name == input.Name }) {
			continue
		}
		given := slices.IndexFunc(v.Fields, func(f api.LitField) bool { return f.Name == input.Name })
		var one outcome
		switch {
		case given >= 0:
			one = m.make(v.Fields[given].Value, input.Type)
		case input.HasDefault:
			one = m.preset(def.Name, input)
		default:
			continue
		}
		out.value.Fields = append(out.value.Fields, api.Member{Name: input.Name, Value: one.value})
		out.count, out.ok = min(out.count+one.count, 1<<40), out.ok && one.ok
	}
	return out
}

func (m *model) preset(typ string, input api.InputDef) outcome {
	key := typ + "." + input.Name
	if m.defaults[key] == nil {
		m.defaults[key] = &outcome{}
		*m.defaults[key] = m.outcome(input.Default, input.Type)
	}
	return *m.defaults[key]
}

// single is the value of a literal that has no parts.
func single(v api.Lit, typ string) api.Value {
	n, isWhole := wholeText(v.Text)
	f, _ := floatText(v.Text)
	switch {
	case v.Kind == api.LitBool:
		return api.Value{Kind: api.KindBool, Bool: v.Text == "true"}
	case v.Kind == api.LitString || v.Kind == api.LitEnum:
		return api.Value{Kind: api.KindString, Text: v.Text}
	case typ == "ID":
		return api.Value{Kind: api.KindString, Text: strconv.FormatInt(n, 10)}
	case typ == "Float" && f == 0 && v.Kind == api.LitInt:
		return api.Value{Kind: api.KindFloat}
	case typ == "Float" || v.Kind == api.LitFloat || !isWhole:
		return api.Value{Kind: api.KindFloat, Float: f}
	}
	return api.Value{Kind: api.KindInt, Int: n}
}

// hold holds the program against the model, and answers whether the literal has faults and whether it has a value.
func hold(t testing.TB, what string, m *model, v api.Lit, want api.TypeRef) (bool, bool) {
	t.Helper()
	faults := lits.Check(m.types, v, want)
	if got, right := told(faults), told(m.check(v, want)); got != right {
		t.Fatalf("Check of %s: got %s, want %s", what, got, right)
	}
	value, ok := lits.Const(m.types, v, want)
	right, has := m.constant(v, want)
	if got, right := written(t, value, ok), written(t, right, has); got != right {
		t.Fatalf("Const of %s: got %.500s, want %.500s", what, got, right)
	}
	return len(faults) > 0, ok
}
