package coerce

import "pergola/api"

// isNull: is it null, or of a kind outside the table?
func isNull(v api.Value) bool {
	return v.Kind <= api.KindNull || v.Kind > api.KindHandle
}

// plain is a copy of a value that has nothing but what its kinds count.
func plain(v api.Value) api.Value {
	switch v.Kind {
	case api.KindBool:
		return api.Value{Kind: v.Kind, Bool: v.Bool}
	case api.KindInt:
		return api.Value{Kind: v.Kind, Int: v.Int}
	case api.KindFloat:
		return api.Value{Kind: v.Kind, Float: v.Float}
	case api.KindString:
		return text(v.Text)
	case api.KindHandle:
		return api.Value{Kind: v.Kind, Type: v.Type, Text: v.Text}
	case api.KindList:
		return plainList(v.Items)
	case api.KindObject:
		return plainObject(v.Fields)
	}
	return api.Value{}
}

func plainList(items []api.Value) api.Value {
	made := api.Value{Kind: api.KindList}
	for _, item := range items {
		made.Items = append(made.Items, plain(item))
	}
	return made
}

func plainObject(members []api.Member) api.Value {
	made := api.Value{Kind: api.KindObject}
	for _, member := range members {
		made.Fields = append(made.Fields, api.Member{Name: member.Name, Value: plain(member.Value)})
	}
	return made
}

func text(s string) api.Value {
	return api.Value{Kind: api.KindString, Text: s}
}

// lookup finds the first member of a name.
type lookup struct {
	members []api.Member
	numbers map[string]int
}

func newLookup(members []api.Member) *lookup {
	return &lookup{members: members}
}

// find numbers the members at the first question: mostly none is asked.
func (l *lookup) find(name string) (api.Value, bool) {
	if l.numbers == nil {
		l.numbers = make(map[string]int, len(l.members))
		for i, member := range l.members {
			if _, ok := l.numbers[member.Name]; !ok {
				l.numbers[member.Name] = i
			}
		}
	}
	number, ok := l.numbers[name]
	if !ok {
		return api.Value{}, false
	}
	return l.members[number].Value, true
}
