package shape

import (
	"iter"

	"pergola/api"
	"pergola/tree"
)

// sheet is a type laid out for being held against its interfaces.
type sheet struct {
	api.SysDef
	ifaces map[string]struct{}
	first  *tree.Ordered[string, *member] // of each field's name the first
}

// member is a field laid out likewise.
type member struct {
	api.FieldDef
	first *tree.Ordered[string, api.InputDef] // of each argument's name the first
}

func newSheet(d api.SysDef) *sheet {
	made := &sheet{SysDef: d, ifaces: map[string]struct{}{}, first: tree.NewOrdered[string, *member]()}
	for _, iface := range d.Ifaces {
		made.ifaces[iface.Name] = struct{}{}
	}
	for _, f := range d.Fields {
		if _, ok := made.first.Get(f.Name); !ok {
			made.first.Put(f.Name, newMember(f))
		}
	}
	return made
}

func newMember(f api.FieldDef) *member {
	made := &member{f, tree.NewOrdered[string, api.InputDef]()}
	for _, arg := range f.Args {
		if !made.hasArg(arg.Name) {
			made.first.Put(arg.Name, arg)
		}
	}
	return made
}

func (m *member) hasArg(name string) bool {
	_, ok := m.first.Get(name)
	return ok
}

// namesAllOf: does the type name every interface that another names?
func (s *sheet) namesAllOf(other *sheet) bool {
	for _, iface := range other.Ifaces {
		if _, ok := s.ifaces[iface.Name]; !ok {
			return false
		}
	}
	return true
}

// bond is a type and a name among its interfaces, with all places at which it stands there.
type bond struct {
	bearers
	by *sheet
	of *sheet // nil where the name is no interface's, or the type's own
}

func (s *system) bonds() []bond {
	sheets := make([]*sheet, len(s.types))
	for i, d := range s.types {
		sheets[i] = newSheet(d)
	}
	var all []bond
	for _, by := range sheets {
		for _, b := range byName(by.Ifaces) {
			made := bond{bearers: b, by: by}
			if s.isOwn(b.name, api.SysInterface) && b.name != by.Name {
				made.of = sheets[s.numbers[b.name]]
			}
			all = append(all, made)
		}
	}
	return all
}

// askedFields goes through the fields that interfaces ask of types.
func askedFields(bonds []bond) iter.Seq2[bond, *member] {
	return func(yield func(bond, *member) bool) {
		for _, b := range bonds {
			if b.of == nil {
				continue
			}
			for _, field := range b.of.first.All() {
				if !yield(b, field) {
					return
				}
			}
		}
	}
}

// gaps goes through the fields that are asked of types which don't have them.
func gaps(bonds []bond) iter.Seq2[bond, *member] {
	return func(yield func(bond, *member) bool) {
		for b, field := range askedFields(bonds) {
			if _, ok := b.by.first.Get(field.Name); !ok && !yield(b, field) {
				return
			}
		}
	}
}

// matches goes through the fields that types have for those that are asked of them.
func matches(bonds []bond) iter.Seq2[*member, *member] {
	return func(yield func(has, asked *member) bool) {
		for b, field := range askedFields(bonds) {
			if has, ok := b.by.first.Get(field.Name); ok && !yield(has, field) {
				return
			}
		}
	}
}
