package coerce

import "pergola/api"

// lookup finds the first member of a name.
type lookup struct {
	members []api.Member
	numbers map[string]int
}

func newLookup(members []api.Member) *lookup {
	return &lookup{members: members}
}

// find numbers the members at the first question: mostly none is asked.
func (l *lookup) find(name string) (api.Value, bool) {
	if l.numbers == nil {
		l.numbers = make(map[string]int, len(l.members))
		for i, member := range l.members {
			if _, ok := l.numbers[member.Name]; !ok {
				l.numbers[member.Name] = i
			}
		}
	}
	number, ok := l.numbers[name]
	if !ok {
		return api.Value{}, false
	}
	return l.members[number].Value, true
}
