package lits

import (
	"pergola/api"
	"pergola/number"
)

func (n *named) isCustom() bool {
	switch n.name {
	case "Int", "Float", "String", "Boolean", "ID":
		return false
	}
	return n.kind == api.SysScalar
}

// takes: does a literal suit the type? Of null and variables other rules speak, and of what stands within lists and objects too.
func (n *named) takes(v api.Lit) bool {
	if v.Kind == api.LitNull || v.Kind == api.LitVar {
		return true
	}
	switch n.kind {
	case api.SysScalar:
		return scalarTakes(n.name, v)
	case api.SysEnum:
		_, ok := n.numbers[v.Text]
		return ok && v.Kind == api.LitEnum
	case api.SysInput:
		return v.Kind == api.LitObject
	}
	return true
}

func scalarTakes(name string, v api.Lit) bool {
	switch name {
	case "Int":
		n, ok := whole(v)
		return ok && number.Fits(n)
	case "Float":
		return isNumber(v) && isRead(v)
	case "String":
		return v.Kind == api.LitString
	case "Boolean":
		return v.Kind == api.LitBool
	case "ID":
		_, ok := whole(v)
		return ok || v.Kind == api.LitString
	}
	return !isNumber(v) || isRead(v)
}

func isNumber(v api.Lit) bool {
	return v.Kind == api.LitInt || v.Kind == api.LitFloat
}

func isRead(v api.Lit) bool {
	_, errno := number.Read(v.Text)
	return errno == api.OK
}

// whole is the number of a whole literal.
func whole(v api.Lit) (int64, bool) {
	if v.Kind != api.LitInt {
		return 0, false
	}
	num, errno := number.Read(v.Text)
	return num.Int, errno == api.OK && num.Kind == api.KindInt
}
