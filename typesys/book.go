package typesys

import (
	"slices"

	"pergola/api"
	"pergola/copies"
)

// book holds definitions of unlike names in the order in which they are told.
type book struct {
	defs    []api.SysDef
	numbers map[string]int
}

// add lays a definition behind all others, unless one of its name is there.
func (b *book) add(d api.SysDef) {
	if b.numbers == nil {
		b.numbers = map[string]int{}
	}
	if _, ok := b.numbers[d.Name]; ok {
		return
	}
	b.numbers[d.Name] = len(b.defs)
	b.defs = append(b.defs, copies.Sys(d))
}

func (b *book) addAll(defs []api.SysDef) {
	for _, d := range defs {
		b.add(d)
	}
}

// find is a name's definition, not a copy of it.
func (b *book) find(name string) (api.SysDef, bool) {
	number, ok := b.numbers[name]
	if !ok {
		return api.SysDef{}, false
	}
	return b.defs[number], true
}

// kind is the kind of a name's definition, or none.
func (b *book) kind(name string) api.SysKind {
	number, ok := b.numbers[name]
	if !ok {
		return 0
	}
	return b.defs[number].Kind
}

func (b *book) names() []string {
	names := make([]string, len(b.defs))
	for i, d := range b.defs {
		names[i] = d.Name
	}
	return names
}

// extend merges an extension into the definition of its name, if that is of its kind.
func (b *book) extend(extension api.SysDef) {
	number, ok := b.numbers[extension.Name]
	if ok && b.defs[number].Kind == extension.Kind {
		merge(&b.defs[number], extension)
	}
}

// merge lays the parts of an extension behind a definition's own.
func merge(d *api.SysDef, extension api.SysDef) {
	more := copies.Sys(extension)
	d.Ifaces = append(d.Ifaces, more.Ifaces...)
	d.Dirs = append(d.Dirs, more.Dirs...)
	d.Fields = append(d.Fields, more.Fields...)
	d.Inputs = append(d.Inputs, more.Inputs...)
	d.Members = append(d.Members, more.Members...)
	d.Values = append(d.Values, more.Values...)
	d.Roots = append(d.Roots, more.Roots...)
}

func gatherTypes(defs []api.SysDef) book {
	builtIn := builtInTypes()
	types := gatherOwn(defs, isTypeDefinition, builtIn)
	for _, d := range defs {
		if isTypeExtension(d) {
			types.extend(d)
		}
	}
	// The built-in types come behind the extensions, for none of them is extended.
	types.addAll(builtIn)
	return types
}

func gatherDirectives(defs []api.SysDef) book {
	builtIn := builtInDirectives()
	directives := gatherOwn(defs, isDirective, builtIn)
	directives.addAll(builtIn)
	return directives
}

// gatherOwn holds those of the definitions that are wanted and bear no built-in definition's name.
func gatherOwn(defs []api.SysDef, wanted func(api.SysDef) bool, builtIn []api.SysDef) book {
	var taken, own book
	taken.addAll(builtIn)
	for _, d := range defs {
		if wanted(d) && taken.kind(d.Name) == 0 {
			own.add(d)
		}
	}
	return own
}

// gatherSchema is the schema's definition with its extensions, or, where there is none, the one that the types' names make.
func gatherSchema(defs []api.SysDef, types book) api.SysDef {
	first := slices.IndexFunc(defs, isSchemaDefinition)
	if first < 0 {
		return schemaByNames(types)
	}
	schema := copies.Sys(defs[first])
	for _, d := range defs {
		if isSchemaExtension(d) {
			merge(&schema, d)
		}
	}
	return schema
}

func schemaByNames(types book) api.SysDef {
	schema := api.SysDef{Kind: api.SysSchema}
	roots := []api.RootDef{
		{Op: api.DefQuery, Type: "Query"},
		{Op: api.DefMutation, Type: "Mutation"},
		{Op: api.DefSubscription, Type: "Subscription"},
	}
	for _, root := range roots {
		if types.kind(root.Type) == api.SysObject {
			schema.Roots = append(schema.Roots, root)
		}
	}
	return schema
}

func isType(d api.SysDef) bool {
	return d.Kind >= api.SysScalar && d.Kind <= api.SysInput
}

func isTypeDefinition(d api.SysDef) bool {
	return isType(d) && !d.Extend
}

func isTypeExtension(d api.SysDef) bool {
	return isType(d) && d.Extend
}

func isDirective(d api.SysDef) bool {
	return d.Kind == api.SysDirective
}

func isSchemaDefinition(d api.SysDef) bool {
	return d.Kind == api.SysSchema && !d.Extend
}

func isSchemaExtension(d api.SysDef) bool {
	return d.Kind == api.SysSchema && d.Extend
}
