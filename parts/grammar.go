package parts

import "pergola/api"

// Note takes a description, if one stands there.
func (c *Cursor) Note() (api.Note, bool) {
	if c.dead() {
		return api.Note{}, false
	}
	switch c.Token().Kind {
	case api.TokString, api.TokBlock:
		token := c.take()
		return api.Note{Has: true, Block: token.Kind == api.TokBlock, Text: token.Value}, true
	}
	return api.Note{}, true
}

// Type takes a reference to a type.
func (c *Cursor) Type() (api.TypeRef, bool) {
	ref, ok := c.unmarked()
	if ok && c.Punct("!") {
		ref.Wrap += "!"
	}
	return ref, ok
}

// unmarked takes a reference up to where its own mark ! may stand.
func (c *Cursor) unmarked() (api.TypeRef, bool) {
	if !c.IsPunct("[") {
		name, ok := c.Name()
		return api.TypeRef{Name: name.Name}, ok
	}
	if !c.Open("[") {
		return api.TypeRef{}, false
	}
	item, ok := c.Type()
	if !ok || !c.Close("]") {
		return api.TypeRef{}, false
	}
	return api.TypeRef{Name: item.Name, Wrap: item.Wrap + "]"}, true
}

// Args takes arguments, if there are any.
func (c *Cursor) Args(constant bool) ([]api.Arg, bool) {
	if !c.IsPunct("(") {
		return nil, !c.dead()
	}
	return bracketed(c, "(", ")", 1, constant, c.arg)
}

// arg takes a name, a colon and a literal.
func (c *Cursor) arg(constant bool) (api.Arg, bool) {
	name, _ := c.Name()
	c.Want(":")
	lit, ok := c.Lit(constant) // of a cursor that the name or the colon stopped: false
	if !ok {
		return api.Arg{}, false
	}
	return api.Arg{Name: name.Name, Value: lit, Pos: name.Pos}, true
}

// Dirs takes directives, if there are any.
func (c *Cursor) Dirs(constant bool) ([]api.Dir, bool) {
	var dirs []api.Dir
	for c.IsPunct("@") {
		dir, ok := c.dir(constant)
		if !ok {
			return nil, false
		}
		dirs = append(dirs, dir)
	}
	return dirs, !c.dead()
}

func (c *Cursor) dir(constant bool) (api.Dir, bool) {
	at := c.take()
	name, _ := c.Name()
	args, ok := c.Args(constant) // of a cursor that the name stopped: false
	if !ok {
		return api.Dir{}, false
	}
	return api.Dir{Name: name.Name, Args: args, Pos: at.Pos}, true
}

// bracketed takes a bracketed list of at least so many elements; read takes one of them.
func bracketed[E any](c *Cursor, left, right string, least int, constant bool, read func(constant bool) (E, bool)) ([]E, bool) {
	if !c.Open(left) {
		return nil, false
	}
	var list []E
	for len(list) < least || !c.IsPunct(right) {
		element, ok := read(constant)
		if !ok {
			return nil, false
		}
		list = append(list, element)
	}
	return list, c.Close(right)
}
