package typesys_test

import (
	"slices"
	"strings"
	"sync"
	"testing"

	"pergola/api"
	"pergola/sdl"
)

// builtInSource is the chapter's text of the built-in definitions.
const builtInSource = `
scalar Int scalar Float scalar String scalar Boolean scalar ID
type __Schema { description: String  types: [__Type!]!  queryType: __Type!  mutationType: __Type  subscriptionType: __Type  directives: [__Directive!]! }
type __Type {
  kind: __TypeKind!  name: String  description: String  specifiedByURL: String
  fields(includeDeprecated: Boolean = false): [__Field!]
  interfaces: [__Type!]  possibleTypes: [__Type!]
  enumValues(includeDeprecated: Boolean = false): [__EnumValue!]
  inputFields: [__InputValue!]  ofType: __Type
}
enum __TypeKind { SCALAR OBJECT INTERFACE UNION ENUM INPUT_OBJECT LIST NON_NULL }
type __Field { name: String!  description: String  args: [__InputValue!]!  type: __Type!  isDeprecated: Boolean!  deprecationReason: String }
type __InputValue { name: String!  description: String  type: __Type!  defaultValue: String }
type __EnumValue { name: String!  description: String  isDeprecated: Boolean!  deprecationReason: String }
type __Directive { name: String!  description: String  locations: [__DirectiveLocation!]!  args: [__InputValue!]!  isRepeatable: Boolean! }
enum __DirectiveLocation {
  QUERY MUTATION SUBSCRIPTION FIELD FRAGMENT_DEFINITION FRAGMENT_SPREAD INLINE_FRAGMENT VARIABLE_DEFINITION
  SCHEMA SCALAR OBJECT FIELD_DEFINITION ARGUMENT_DEFINITION INTERFACE UNION ENUM ENUM_VALUE INPUT_OBJECT INPUT_FIELD_DEFINITION
}
directive @skip(if: Boolean!) on FIELD | FRAGMENT_SPREAD | INLINE_FRAGMENT
directive @include(if: Boolean!) on FIELD | FRAGMENT_SPREAD | INLINE_FRAGMENT
directive @deprecated(reason: String = "No longer supported") on FIELD_DEFINITION | ENUM_VALUE
directive @specifiedBy(url: String!) on SCALAR
`

const (
	builtInTypes      = "Int Float String Boolean ID __Schema __Type __TypeKind __Field __InputValue __EnumValue __Directive __DirectiveLocation"
	builtInDirectives = "skip include deprecated specifiedBy"
)

// model answers by the chapter's words alone: it keeps the definitions as they are and goes through all of them at each question.
type model struct {
	defs    []api.SysDef
	builtIn []api.SysDef
	own     []api.FieldDef // the fields that types have by themselves
}

func newModel(t testing.TB, src string) model {
	t.Helper()
	return model{read(t, src), given().builtIn, given().own}
}

// given are a model's parts that hang on no definitions.
var given = sync.OnceValue(func() model {
	builtIn, fault := sdl.Parse([]byte(builtInSource), 9)
	holder, other := sdl.Parse([]byte("type T {__typename: String! __schema: __Schema! __type(name: String!): __Type}"), 9)
	if fault.Kind != api.OK || other.Kind != api.OK {
		panic("the built-in definitions are not read")
	}
	return model{nil, unplaced(builtIn), unplaced(holder[0].Fields)}
})

func isOneOf(name, names string) bool { return slices.Contains(strings.Fields(names), name) }

func modelTypeKind(k api.SysKind) bool {
	return slices.Contains([]api.SysKind{api.SysScalar, api.SysObject, api.SysInterface, api.SysUnion, api.SysEnum, api.SysInput}, k)
}

// counts: does the definition number i count (P12.1)?
func (m model) counts(i int) bool {
	d := m.defs[i]
	switch {
	case modelTypeKind(d.Kind) && !d.Extend:
		return !isOneOf(d.Name, builtInTypes) && !slices.ContainsFunc(m.defs[:i], func(o api.SysDef) bool {
			return modelTypeKind(o.Kind) && !o.Extend && o.Name == d.Name
		})
	case d.Kind == api.SysDirective:
		return !isOneOf(d.Name, builtInDirectives) && !slices.ContainsFunc(m.defs[:i], func(o api.SysDef) bool {
			return o.Kind == api.SysDirective && o.Name == d.Name
		})
	case d.Kind == api.SysSchema && !d.Extend:
		return !slices.ContainsFunc(m.defs[:i], func(o api.SysDef) bool { return o.Kind == api.SysSchema && !o.Extend })
	}
	for j, o := range m.defs {
		if !o.Extend && m.counts(j) && o.Kind == d.Kind && (d.Kind == api.SysSchema || o.Name == d.Name) {
			return true
		}
	}
	return false
}

// found is the definition that counts of those that are asked for, or else the built-in one.
func (m model) found(asked func(api.SysDef) bool) (api.SysDef, bool) {
	for i, d := range m.defs {
		if !d.Extend && asked(d) && m.counts(i) {
			return d, true
		}
	}
	for _, d := range m.builtIn {
		if asked(d) {
			return d, true
		}
	}
	return api.SysDef{}, false
}

// extensions are the extensions of a definition that count.
func (m model) extensions(of api.SysDef) []api.SysDef {
	var out []api.SysDef
	for i, d := range m.defs {
		if d.Extend && d.Kind == of.Kind && d.Name == of.Name && m.counts(i) {
			out = append(out, d)
		}
	}
	return out
}

func (m model) Type(name string) (api.SysDef, bool) {
	d, ok := m.found(func(d api.SysDef) bool { return modelTypeKind(d.Kind) && d.Name == name })
	if !ok {
		return api.SysDef{}, false
	}
	for _, e := range m.extensions(d) {
		d.Ifaces = slices.Concat(d.Ifaces, e.Ifaces)
		d.Dirs = slices.Concat(d.Dirs, e.Dirs)
		d.Fields = slices.Concat(d.Fields, e.Fields)
		d.Inputs = slices.Concat(d.Inputs, e.Inputs)
		d.Members = slices.Concat(d.Members, e.Members)
		d.Values = slices.Concat(d.Values, e.Values)
	}
	return d, true
}

func (m model) Directive(name string) (api.SysDef, bool) {
	return m.found(func(d api.SysDef) bool { return d.Kind == api.SysDirective && d.Name == name })
}

func (m model) Names() []string {
	var out []string
	for i, d := range m.defs {
		if modelTypeKind(d.Kind) && !d.Extend && m.counts(i) {
			out = append(out, d.Name)
		}
	}
	return append(out, strings.Fields(builtInTypes)...)
}

func (m model) Directives() []string {
	var out []string
	for i, d := range m.defs {
		if d.Kind == api.SysDirective && m.counts(i) {
			out = append(out, d.Name)
		}
	}
	return append(out, strings.Fields(builtInDirectives)...)
}

func (m model) Schema() api.SysDef {
	d, ok := m.found(func(d api.SysDef) bool { return d.Kind == api.SysSchema })
	if ok {
		for _, e := range m.extensions(d) {
			d.Dirs, d.Roots = slices.Concat(d.Dirs, e.Dirs), slices.Concat(d.Roots, e.Roots)
		}
		return d
	}
	d.Kind = api.SysSchema
	for i, name := range []string{"Query", "Mutation", "Subscription"} {
		if root, _ := m.Type(name); root.Kind == api.SysObject {
			d.Roots = append(d.Roots, api.RootDef{Op: api.DefKind(i + 1), Type: name})
		}
	}
	return d
}

func (m model) Root(op api.DefKind) string {
	roots := m.Schema().Roots
	i := slices.IndexFunc(roots, func(r api.RootDef) bool { return r.Op == op })
	if i < 0 {
		return ""
	}
	return roots[i].Type
}

func (m model) kind(name string) api.SysKind {
	d, _ := m.Type(name)
	return d.Kind
}

func (m model) Field(typ, field string) (api.FieldDef, bool) {
	d, _ := m.Type(typ)
	if d.Kind != api.SysObject && d.Kind != api.SysInterface && d.Kind != api.SysUnion {
		return api.FieldDef{}, false
	}
	own := m.own[:1]
	if m.Root(api.DefQuery) == typ && d.Kind == api.SysObject {
		own = m.own
	}
	fields := slices.Concat(own, d.Fields)
	i := slices.IndexFunc(fields, func(f api.FieldDef) bool { return f.Name == field })
	if i < 0 {
		return api.FieldDef{}, false
	}
	return fields[i], true
}

func (m model) Possible(name string) []string {
	d, _ := m.Type(name)
	var out []string
	switch d.Kind {
	case api.SysObject:
		out = append(out, name)
	case api.SysInterface:
		for _, object := range m.Names() {
			if o, _ := m.Type(object); o.Kind == api.SysObject && m.implements(object, name) {
				out = append(out, object)
			}
		}
	case api.SysUnion:
		for _, member := range d.Members {
			if m.kind(member.Name) == api.SysObject && !slices.Contains(out, member.Name) {
				out = append(out, member.Name)
			}
		}
	}
	return out
}

func (m model) implements(a, b string) bool {
	d, _ := m.Type(a)
	return slices.ContainsFunc(d.Ifaces, func(n api.Named) bool { return n.Name == b })
}

func (m model) Meet(a, b string) bool {
	return slices.ContainsFunc(m.Possible(a), func(name string) bool { return slices.Contains(m.Possible(b), name) })
}

func (m model) Within(a, b string) bool {
	names := m.Names()
	if !slices.Contains(names, a) || !slices.Contains(names, b) {
		return false
	}
	if a == b {
		return true
	}
	switch m.kind(b) {
	case api.SysUnion:
		return slices.Contains(m.Possible(b), a)
	case api.SysInterface:
		return (m.kind(a) == api.SysObject || m.kind(a) == api.SysInterface) && m.implements(a, b)
	}
	return false
}

func (m model) Fits(a, b api.TypeRef) bool {
	ahead := func(r api.TypeRef) api.TypeRef { return ref(r.Name, r.Wrap[:len(r.Wrap)-1]) }
	if strings.HasSuffix(b.Wrap, "!") {
		return strings.HasSuffix(a.Wrap, "!") && m.Fits(ahead(a), ahead(b))
	}
	if strings.HasSuffix(a.Wrap, "!") {
		return m.Fits(ahead(a), b)
	}
	if strings.HasSuffix(b.Wrap, "]") {
		return strings.HasSuffix(a.Wrap, "]") && m.Fits(ahead(a), ahead(b))
	}
	return b.Wrap == "" && a.Wrap == "" && m.Within(a.Name, b.Name)
}

func (m model) Input(name string) bool {
	return slices.Contains([]api.SysKind{api.SysScalar, api.SysEnum, api.SysInput}, m.kind(name))
}

func (m model) Output(name string) bool {
	return slices.Contains([]api.SysKind{api.SysScalar, api.SysObject, api.SysInterface, api.SysUnion, api.SysEnum}, m.kind(name))
}
