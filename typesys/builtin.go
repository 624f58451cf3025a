package typesys

import "pergola/api"

func builtInTypes() []api.SysDef {
	return []api.SysDef{
		scalar("Int"),
		scalar("Float"),
		scalar("String"),
		scalar("Boolean"),
		scalar("ID"),
		schemaType(),
		typeType(),
		enum("__TypeKind", "SCALAR", "OBJECT", "INTERFACE", "UNION", "ENUM", "INPUT_OBJECT", "LIST", "NON_NULL"),
		fieldType(),
		inputValueType(),
		enumValueType(),
		directiveType(),
		enum("__DirectiveLocation",
			"QUERY", "MUTATION", "SUBSCRIPTION", "FIELD", "FRAGMENT_DEFINITION", "FRAGMENT_SPREAD", "INLINE_FRAGMENT", "VARIABLE_DEFINITION",
			"SCHEMA", "SCALAR", "OBJECT", "FIELD_DEFINITION", "ARGUMENT_DEFINITION", "INTERFACE", "UNION", "ENUM", "ENUM_VALUE", "INPUT_OBJECT", "INPUT_FIELD_DEFINITION"),
	}
}

func builtInDirectives() []api.SysDef {
	reason := api.Lit{Kind: api.LitString, Text: "No longer supported"}
	return []api.SysDef{
		directive("skip", input("if", "Boolean", "!"), "FIELD", "FRAGMENT_SPREAD", "INLINE_FRAGMENT"),
		directive("include", input("if", "Boolean", "!"), "FIELD", "FRAGMENT_SPREAD", "INLINE_FRAGMENT"),
		directive("deprecated", preset(input("reason", "String", ""), reason), "FIELD_DEFINITION", "ENUM_VALUE"),
		directive("specifiedBy", input("url", "String", "!"), "SCALAR"),
	}
}

func schemaType() api.SysDef {
	return object("__Schema",
		field("description", "String", ""),
		field("types", "__Type", "!]!"),
		field("queryType", "__Type", "!"),
		field("mutationType", "__Type", ""),
		field("subscriptionType", "__Type", ""),
		field("directives", "__Directive", "!]!"),
	)
}

func typeType() api.SysDef {
	return object("__Type",
		field("kind", "__TypeKind", "!"),
		field("name", "String", ""),
		field("description", "String", ""),
		field("specifiedByURL", "String", ""),
		field("fields", "__Field", "!]", includeDeprecated()),
		field("interfaces", "__Type", "!]"),
		field("possibleTypes", "__Type", "!]"),
		field("enumValues", "__EnumValue", "!]", includeDeprecated()),
		field("inputFields", "__InputValue", "!]"),
		field("ofType", "__Type", ""),
	)
}

func fieldType() api.SysDef {
	return object("__Field",
		field("name", "String", "!"),
		field("description", "String", ""),
		field("args", "__InputValue", "!]!"),
		field("type", "__Type", "!"),
		field("isDeprecated", "Boolean", "!"),
		field("deprecationReason", "String", ""),
	)
}

func inputValueType() api.SysDef {
	return object("__InputValue",
		field("name", "String", "!"),
		field("description", "String", ""),
		field("type", "__Type", "!"),
		field("defaultValue", "String", ""),
	)
}

func enumValueType() api.SysDef {
	return object("__EnumValue",
		field("name", "String", "!"),
		field("description", "String", ""),
		field("isDeprecated", "Boolean", "!"),
		field("deprecationReason", "String", ""),
	)
}

func directiveType() api.SysDef {
	return object("__Directive",
		field("name", "String", "!"),
		field("description", "String", ""),
		field("locations", "__DirectiveLocation", "!]!"),
		field("args", "__InputValue", "!]!"),
		field("isRepeatable", "Boolean", "!"),
	)
}

func includeDeprecated() api.InputDef {
	return preset(input("includeDeprecated", "Boolean", ""), api.Lit{Kind: api.LitBool, Text: "false"})
}

func scalar(name string) api.SysDef {
	return api.SysDef{Kind: api.SysScalar, Name: name}
}

func object(name string, fields ...api.FieldDef) api.SysDef {
	return api.SysDef{Kind: api.SysObject, Name: name, Fields: fields}
}

func enum(name string, values ...string) api.SysDef {
	def := api.SysDef{Kind: api.SysEnum, Name: name}
	for _, value := range values {
		def.Values = append(def.Values, api.ValueDef{Name: value})
	}
	return def
}

func directive(name string, arg api.InputDef, places ...string) api.SysDef {
	def := api.SysDef{Kind: api.SysDirective, Name: name, Inputs: []api.InputDef{arg}}
	for _, place := range places {
		def.Places = append(def.Places, api.Named{Name: place})
	}
	return def
}

func field(name, typ, wrap string, args ...api.InputDef) api.FieldDef {
	return api.FieldDef{Name: name, Args: args, Type: api.TypeRef{Name: typ, Wrap: wrap}}
}

func input(name, typ, wrap string) api.InputDef {
	return api.InputDef{Name: name, Type: api.TypeRef{Name: typ, Wrap: wrap}}
}

// preset is an input with a default.
func preset(d api.InputDef, value api.Lit) api.InputDef {
	d.HasDefault, d.Default = true, value
	return d
}
