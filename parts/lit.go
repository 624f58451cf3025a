package parts

import "pergola/api"

// Lit takes a literal.
func (c *Cursor) Lit(constant bool) (api.Lit, bool) {
	if c.dead() {
		return api.Lit{}, false
	}
	switch token := c.Token(); token.Kind {
	case api.TokInt:
		return c.leaf(api.LitInt, token.Text), true
	case api.TokFloat:
		return c.leaf(api.LitFloat, token.Text), true
	case api.TokString, api.TokBlock:
		lit := c.leaf(api.LitString, token.Value)
		lit.Block = token.Kind == api.TokBlock
		return lit, true
	case api.TokName:
		return c.word(token.Text), true
	}
	switch {
	case c.IsPunct("$") && !constant:
		return c.variable()
	case c.IsPunct("["):
		return c.list(constant)
	case c.IsPunct("{"):
		return c.object(constant)
	}
	c.Refuse()
	return api.Lit{}, false
}

// leaf takes the token as a literal of one token.
func (c *Cursor) leaf(kind api.LitKind, text string) api.Lit {
	return api.Lit{Kind: kind, Text: text, Pos: c.take().Pos}
}

func (c *Cursor) word(text string) api.Lit {
	switch text {
	case "true", "false":
		return c.leaf(api.LitBool, text)
	case "null":
		return c.leaf(api.LitNull, "")
	}
	return c.leaf(api.LitEnum, text)
}

func (c *Cursor) variable() (api.Lit, bool) {
	dollar := c.take()
	name, ok := c.Name()
	if !ok {
		return api.Lit{}, false
	}
	return api.Lit{Kind: api.LitVar, Text: name.Name, Pos: dollar.Pos}, true
}

func (c *Cursor) list(constant bool) (api.Lit, bool) {
	pos := c.Token().Pos
	items, ok := bracketed(c, "[", "]", 0, constant, c.Lit)
	if !ok {
		return api.Lit{}, false
	}
	return api.Lit{Kind: api.LitList, Items: items, Pos: pos}, true
}

func (c *Cursor) object(constant bool) (api.Lit, bool) {
	pos := c.Token().Pos
	fields, ok := bracketed(c, "{", "}", 0, constant, c.field)
	if !ok {
		return api.Lit{}, false
	}
	return api.Lit{Kind: api.LitObject, Fields: fields, Pos: pos}, true
}

// field takes a field of an object, which is written as an argument is.
func (c *Cursor) field(constant bool) (api.LitField, bool) {
	arg, ok := c.arg(constant)
	return api.LitField(arg), ok
}
