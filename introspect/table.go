package introspect

import "slices"

// The introspection types that have objects.
const (
	schemaType     = "__Schema"
	typeType       = "__Type"
	fieldType      = "__Field"
	inputValueType = "__InputValue"
	enumValueType  = "__EnumValue"
	directiveType  = "__Directive"
)

// row is an introspection type with the names of its fields.
type row struct {
	typ    string
	fields []string
}

func fieldTable() []row {
	return []row{
		{schemaType, []string{"description", "types", "queryType", "mutationType", "subscriptionType", "directives"}},
		{typeType, []string{"kind", "name", "description", "specifiedByURL", "fields", "interfaces", "possibleTypes", "enumValues", "inputFields", "ofType"}},
		{fieldType, []string{"name", "description", "args", "type", "isDeprecated", "deprecationReason"}},
		{inputValueType, []string{"name", "description", "type", "defaultValue"}},
		{enumValueType, []string{"name", "description", "isDeprecated", "deprecationReason"}},
		{directiveType, []string{"name", "description", "locations", "args", "isRepeatable"}},
	}
}

// hasField: is it an introspection type with such a field?
func hasField(typ, field string) bool {
	return slices.ContainsFunc(fieldTable(), func(r row) bool {
		return r.typ == typ && slices.Contains(r.fields, field)
	})
}
