package typesys_test

import (
	"strconv"
	"strings"
	"testing"

	"pergola/api"
	"pergola/typesys"
)

// Many types, fields, extensions and members: the questions that later layers ask of each selection don't go through all of them.
func TestManyTypes(t *testing.T) {
	const many = 20000
	var defs []api.SysDef
	iface := api.SysDef{Kind: api.SysInterface, Name: "I", Fields: make([]api.FieldDef, many)}
	union := api.SysDef{Kind: api.SysUnion, Name: "U"}
	for i := range many {
		name := "T" + strconv.Itoa(i)
		iface.Fields[i] = api.FieldDef{Name: "f" + strconv.Itoa(i), Type: ref(name, "")}
		union.Members = append(union.Members, api.Named{Name: name})
		defs = append(defs, api.SysDef{Kind: api.SysObject, Name: name, Ifaces: []api.Named{{Name: "I"}}})
	}
	defs = append(defs, iface, union, api.SysDef{Kind: api.SysObject, Name: "Alone"})
	for i := range many {
		defs = append(defs, api.SysDef{Kind: api.SysInterface, Name: "I", Extend: true, Dirs: []api.Dir{{Name: "d" + strconv.Itoa(i)}}})
	}
	s := typesys.Build(defs)
	for i := range many {
		name := "T" + strconv.Itoa(i)
		field, ok := s.Field("I", "f"+strconv.Itoa(i))
		if !ok || field.Type.Name != name || !s.Within(name, "I") || !s.Within(name, "U") || s.Within("I", name) || !s.Meet(name, "I") || !s.Meet("U", name) || s.Meet("Alone", "I") || !s.Output(name) {
			t.Fatal("type", name)
		}
	}
	alike(t, "objects of I", len(s.Possible("I")), many)
	alike(t, "objects of U", len(s.Possible("U")), many)
	alike(t, "I and U meet", s.Meet("I", "U"), true)
	alike(t, "I and Alone meet", s.Meet("I", "Alone"), false)
	def, _ := s.Type("I")
	alike(t, "directives of I", len(def.Dirs), many)
	alike(t, "the last directive of I", def.Dirs[many-1].Name, "d"+strconv.Itoa(many-1))
}

// Many definitions of one name, and members that stand many times.
func TestManyOfOneName(t *testing.T) {
	src := strings.Repeat("type A{a:Int} ", 10000) + "union U=" + strings.Repeat("A|", 10000) + "A " + strings.Repeat("extend type A implements I ", 10000) + "interface I"
	s := build(t, src)
	alike(t, "Names", told(s.Names()), "A U I "+builtInTypes)
	alike(t, "objects of U", told(s.Possible("U")), "A")
	alike(t, "objects of I", told(s.Possible("I")), "A")
	def, _ := s.Type("A")
	alike(t, "fields of A", len(def.Fields), 1)
	alike(t, "interfaces of A", len(def.Ifaces), 10000)
}
