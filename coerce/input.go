package coerce

import (
	"slices"

	"pergola/api"
	"pergola/number"
	"pergola/tree"
	"pergola/typesys"
	"pergola/utf"
	"pergola/values"
)

// holder holds a value against a type. A value that can't be, for it has too many parts or a default without a value, is a misfit too, but behind all others: so what is given is gone through to its end, and only nothing more is made of it.
type holder struct {
	*catalog
	path []api.Step // of the part that is held
	room int        // how many parts the value may still have; below 0 it can't be
}

// input is Input over what is known of a type system.
func (c *catalog) input(v api.Value, want api.TypeRef) (api.Value, error) {
	h := holder{catalog: c, room: api.MostParts}
	made, err := h.hold(v, want)
	if err != nil {
		return api.Value{}, err
	}
	if !h.isMaking() {
		return api.Value{}, h.misfit(want)
	}
	return made, nil
}

func (h *holder) isMaking() bool { return h.room >= 0 }

// misfit is that of the part that is held, or of what lies beneath it by these steps.
func (h *holder) misfit(want api.TypeRef, steps ...api.Step) error {
	return &Misfit{Path: slices.Concat(h.path, steps), Want: want}
}

func (h *holder) hold(v api.Value, want api.TypeRef) (api.Value, error) {
	bare, forbidsNull := typesys.Bare(want)
	item, isList := typesys.Item(want)
	switch {
	case forbidsNull && values.IsNull(v):
		return api.Value{}, h.misfit(want)
	case forbidsNull:
		return h.hold(v, bare)
	case values.IsNull(v):
		h.room--
		return api.Value{}, nil
	case !isList:
		return h.holdNamed(v, want)
	case v.Kind == api.KindList:
		return h.holdItems(v.Items, item)
	}
	return h.holdLone(v, item)
}

// holdUnder holds a part that lies a step further in.
func (h *holder) holdUnder(step api.Step, v api.Value, want api.TypeRef) (api.Value, error) {
	h.path = append(h.path, step)
	made, err := h.hold(v, want)
	h.path = h.path[:len(h.path)-1]
	return made, err
}

func (h *holder) holdItems(items []api.Value, want api.TypeRef) (api.Value, error) {
	h.room--
	made := api.Value{Kind: api.KindList}
	for i, item := range items {
		value, err := h.holdUnder(api.Step{Index: i, Item: true}, item, want)
		if err != nil {
			return api.Value{}, err
		}
		if h.isMaking() {
			made.Items = append(made.Items, value)
		}
	}
	return made, nil
}

// holdLone holds what stands for a list of one item. No such list is in the value, so the path has no step for it.
func (h *holder) holdLone(v api.Value, want api.TypeRef) (api.Value, error) {
	h.room--
	value, err := h.hold(v, want)
	if err != nil {
		return api.Value{}, err
	}
	return api.Value{Kind: api.KindList, Items: []api.Value{value}}, nil
}

func (h *holder) holdNamed(v api.Value, want api.TypeRef) (api.Value, error) {
	at := h.find(want.Name)
	switch {
	case at.kind == api.SysInput && v.Kind == api.KindObject:
		return h.holdObject(v.Fields, at)
	case at.isCustom():
		return h.holdFree(v, want)
	}
	made, ok := leaf(v, at)
	if !ok {
		return api.Value{}, h.misfit(want)
	}
	h.room--
	return made, nil
}

// holdFree holds a value against a scalar type that takes all sound ones.
func (h *holder) holdFree(v api.Value, want api.TypeRef) (api.Value, error) {
	if _, errno := tree.Sound(v); errno != api.OK {
		return api.Value{}, h.misfit(want)
	}
	h.room -= tree.Count(v)
	if !h.isMaking() {
		return api.Value{}, nil
	}
	return values.Plain(v), nil
}

func (h *holder) holdObject(members []api.Member, at *named) (api.Value, error) {
	given, err := h.number(members, at)
	if err != nil {
		return api.Value{}, err
	}
	h.room--
	var preset []int
	if h.isMaking() {
		preset = at.preset
	}
	made := api.Value{Kind: api.KindObject}
	for _, turn := range turns(given, at.required, preset) {
		value, err := h.holdField(given, at, turn)
		if err != nil {
			return api.Value{}, err
		}
		if h.isMaking() {
			made.Fields = append(made.Fields, api.Member{Name: at.inputs[turn].Name, Value: value})
		}
	}
	return made, nil
}

// number finds the fields that the members are of. All names are looked at ahead of any value.
func (h *holder) number(members []api.Member, at *named) (map[int]*api.Value, error) {
	given := make(map[int]*api.Value, len(members))
	for i, member := range members {
		number, isKnown := at.numbers[member.Name]
		if !isKnown || given[number] != nil {
			return nil, h.misfit(api.TypeRef{}, api.Step{Name: member.Name})
		}
		given[number] = &members[i].Value
	}
	return given, nil
}

// holdField is the value of a field that is given, or that must be there.
func (h *holder) holdField(given map[int]*api.Value, at *named, number int) (api.Value, error) {
	input := at.inputs[number]
	step := api.Step{Name: input.Name}
	v := given[number]
	switch {
	case v != nil:
		return h.holdUnder(step, *v, input.Type)
	case !input.HasDefault:
		return api.Value{}, h.misfit(input.Type, step)
	}
	return h.fill(input), nil
}

// fill is a field's default, which takes its parts of the room for the whole value.
func (h *holder) fill(input api.InputDef) api.Value {
	if !h.isMaking() {
		return api.Value{}
	}
	made, rest, ok := h.constant(input.Default, input.Type, h.room)
	h.room = rest
	if !ok {
		h.room = -1
	}
	return made
}

// leaf is what becomes of a value at a type without parts of its own; false: it doesn't fit.
func leaf(v api.Value, at *named) (api.Value, bool) {
	switch at.kind {
	case api.SysScalar:
		return scalar(v, at.name)
	case api.SysEnum:
		_, ok := at.numbers[v.Text]
		return values.Text(v.Text), ok && v.Kind == api.KindString
	}
	return api.Value{}, false
}

func scalar(v api.Value, name string) (api.Value, bool) {
	isText := v.Kind == api.KindString && utf.Clean(v.Text)
	isWhole := v.Kind == api.KindInt
	switch name {
	case "Int":
		return values.Plain(v), isWhole && number.Fits(v.Int)
	case "Float":
		if isWhole {
			float, _ := number.OfWhole(v.Int)
			return api.Value{Kind: api.KindFloat, Float: float}, true
		}
		return values.Plain(v), v.Kind == api.KindFloat && values.IsFinite(v.Float)
	case "String":
		return values.Plain(v), isText
	case "Boolean":
		return values.Plain(v), v.Kind == api.KindBool
	case "ID":
		if isWhole {
			return values.Text(number.WholeText(v.Int)), true
		}
		return values.Plain(v), isText
	}
	return api.Value{}, false
}
