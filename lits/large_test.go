package lits_test

import (
	"strconv"
	"strings"
	"testing"

	"pergola/api"
	"pergola/lits"
)

// Many fields in a type and many objects in a literal: no object goes through all of the type's fields, and no type is copied for each object.
func TestManyFieldsAndObjects(t *testing.T) {
	const many = 40000
	var src strings.Builder
	src.WriteString("input I {")
	for i := range many {
		src.WriteString("f" + strconv.Itoa(i) + ": I ")
	}
	src.WriteString("z: Int! d: Int = 4} enum E {")
	for i := range many {
		src.WriteString("v" + strconv.Itoa(i) + " ")
	}
	src.WriteString("}")
	types := build(t, src.String())
	wrong := lit(t, "["+strings.Repeat("{} {z: 1} ", many)+"]")
	faults := lits.Check(types, wrong, ref(t, "[I]"))
	if len(faults) != many || faults[0].Kind != api.ErrInFieldMissing || faults[1].Pos[0].Col != 12 {
		t.Error("faults:", len(faults), told(faults[:2]))
	}
	right := lit(t, "["+strings.Repeat("{z: 1} ", 1300)+"{z: 1 f39999: {z: 2} f7: {z: 3}}]")
	value, ok := lits.Const(types, right, ref(t, "[I]"))
	if !ok || len(value.Items) != 1301 || written(t, value.Items[1300], true) != `{"f7":{"z":3,"d":4},"f39999":{"z":2,"d":4},"z":1,"d":4}` {
		t.Error("value:", ok, len(value.Items))
	}
	var nested strings.Builder
	for i := range many {
		nested.WriteString("f" + strconv.Itoa(i) + ": {z: 1} ")
	}
	if got := checkText(t, types, "{z: 1 "+nested.String()+"}", "I"); got != "" {
		t.Errorf("%.200s", got)
	}
	names := lit(t, "["+strings.Repeat("v39999 v0 v40000 ", many)+"]")
	if faults := lits.Check(types, names, ref(t, "[E]")); len(faults) != many {
		t.Error("faults:", len(faults))
	}
}

// Many fields in one object, of unlike names and of one.
func TestManyFieldsInOneObject(t *testing.T) {
	const many = 50000
	types := build(t, chapter)
	unlike := "{" + fieldsText(many) + "}"
	if got := checkText(t, types, unlike, "S"); got != "" {
		t.Errorf("%.200s", got)
	}
	if faults := lits.Check(types, lit(t, unlike), ref(t, "I")); len(faults) != many+1 {
		t.Error("faults:", len(faults))
	}
	one := lit(t, "{"+strings.Repeat("b: null ", many)+"}")
	if faults := lits.Check(types, one, ref(t, "I")); len(faults) != 2 || len(faults[0].Pos) != many {
		t.Error("faults:", len(faults))
	}
	if !lits.Same(one, one) || lits.Same(one, lit(t, unlike)) {
		t.Error("Same")
	}
	if vars := lits.Vars(lit(t, "["+strings.Repeat("{a: $v} ", many)+"]")); len(vars) != many || vars[many-1].Pos.Col != 8*many-2 {
		t.Error("Vars:", len(vars))
	}
}

// A long way of defaults, each of a type of its own: of 2000 types deep there is a value, of 3000 there is none.
func TestLongWayOfDefaults(t *testing.T) {
	var src strings.Builder
	for i := range 3000 {
		src.WriteString("input W" + strconv.Itoa(i) + " {x: Int = 1 w: W" + strconv.Itoa(i+1) + " = {}} ")
	}
	src.WriteString("input W3000 {x: Int}")
	types := build(t, src.String())
	hasParts(t, types, "{}", "W1000", 4001)
	hasParts(t, types, "{}", "W0", 6001)
	hasParts(t, types, "[{} {} {}]", "[W2800]", 4+3*400)
}
