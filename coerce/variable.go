package coerce

import (
	"pergola/api"
	"pergola/values"
)

// variables are the values of variables, and a fault for each whose value doesn't fit.
func (c *catalog) variables(defs []api.VarDef, given api.Value) ([]api.Member, []api.Fault) {
	var members []api.Member
	var faults []api.Fault
	if given.Kind != api.KindObject {
		given = api.Value{}
	}
	brought := values.NewLookup(given.Fields)
	for _, def := range defs {
		value, has, err := c.variable(def, brought)
		switch {
		case err != nil:
			faults = append(faults, api.Fault{Kind: api.ErrVariable, Pos: []api.Pos{def.Pos}, Path: pathOf(err)})
		case has:
			members = append(members, api.Member{Name: def.Name, Value: value})
		}
	}
	return members, faults
}

// variable is the value of a variable; false: it has none, and needs none.
func (c *catalog) variable(def api.VarDef, brought *values.Lookup) (api.Value, bool, error) {
	if v, ok := brought.Find(def.Name); ok {
		value, err := c.input(v, def.Type)
		return value, err == nil, err
	}
	if def.HasDefault {
		value, _, ok := c.constant(def.Default, def.Type, api.MostParts)
		if !ok {
			return api.Value{}, false, ErrMisfit
		}
		return value, true, nil
	}
	if isMarked(def.Type) {
		return api.Value{}, false, ErrMisfit
	}
	return api.Value{}, false, nil
}
