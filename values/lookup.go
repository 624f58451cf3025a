package values

import "pergola/api"

// Lookup finds the first member of a name.
type Lookup struct {
	members []api.Member
	numbers map[string]int
}

// NewLookup looks in these members. It keeps them as they are, and so lives no longer than the call that has them.
func NewLookup(members []api.Member) *Lookup {
	return &Lookup{members: members}
}

// Find is the value of a name; false, if no member bears it. The members are numbered at the first question, for mostly none is asked.
func (l *Lookup) Find(name string) (api.Value, bool) {
	if l.numbers == nil {
		l.numbers = make(map[string]int, len(l.members))
		for i, member := range l.members {
			if _, ok := l.numbers[member.Name]; !ok {
				l.numbers[member.Name] = i
			}
		}
	}
	number, ok := l.numbers[name]
	if !ok {
		return api.Value{}, false
	}
	return l.members[number].Value, true
}
