package exec

import (
	"pergola/api"
	"pergola/tree"
)

// trail is a path, from its last step on: so the paths of all nodes are kept, and their beginnings only once. The empty path is nil.
type trail struct {
	up     *trail
	length int
	step   api.Step
}

func (t *trail) key(name string) *trail {
	return t.then(api.Step{Name: name})
}

func (t *trail) item(number int) *trail {
	return t.then(api.Step{Index: number, Item: true})
}

func (t *trail) then(step api.Step) *trail {
	if t == nil {
		return &trail{length: 1, step: step}
	}
	return &trail{t, t.length + 1, step}
}

// steps are the path's, from the outside in.
func (t *trail) steps() []api.Step {
	if t == nil {
		return nil
	}
	steps := make([]api.Step, t.length)
	for ; t != nil; t = t.up {
		steps[t.length-1] = t.step
	}
	return steps
}

func (t *trail) text() string {
	return tree.PathText(t.steps())
}
