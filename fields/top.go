package fields

import (
	"strings"

	"pergola/api"
	"pergola/scope"
)

// topKeys is what counts of the keys of top fields: there is none, there is just one, or there is what a subscription may not have, several keys or a field of introspection.
type topKeys struct {
	state int
	key   string // of the one, else empty
}

const (
	noKey = iota
	oneKey
	wrongKeys
)

func (k topKeys) isSingle() bool { return k.state == oneKey }

// with is what counts of both together.
func (k topKeys) with(other topKeys) topKeys {
	switch {
	case k.state == noKey || k == other:
		return other
	case other.state == noKey:
		return k
	}
	return topKeys{state: wrongKeys}
}

func keyOf(field api.Node) topKeys {
	if strings.HasPrefix(field.Name, "__") {
		return topKeys{state: wrongKeys}
	}
	return topKeys{state: oneKey, key: field.Key}
}

// topKeysOf are the top fields' keys of all definitions. They are found for all at one go, so that a fragment that many spread isn't gone into by each of them anew.
func topKeysOf(s *scope.Sheet, defs int) []topKeys {
	nodes := s.Nodes()
	isTop := make([]bool, len(nodes))
	keys := make([]topKeys, defs)
	spreaders := make([][]int, defs) // of each definition those in which it is spread at the top
	for i, node := range nodes {
		isTop[i] = node.Up < 0 || isTop[node.Up] && nodes[node.Up].Kind == api.SelInline
		if !isTop[i] {
			continue
		}
		switch node.Kind {
		case api.SelField:
			keys[node.Def] = keys[node.Def].with(keyOf(node))
		case api.SelSpread:
			if target, ok := s.Fragment(node.Name); ok {
				spreaders[target] = append(spreaders[target], node.Def)
			}
		}
	}
	handOn(keys, spreaders)
	return keys
}

// handOn hands what each fragment has on to those that spread it, till nothing is new to any. What a definition has changes twice at most, so that each spread is looked at three times at most, in rings too.
func handOn(keys []topKeys, spreaders [][]int) {
	waiting := make([]int, len(keys))
	for i := range waiting {
		waiting[i] = i
	}
	for len(waiting) > 0 {
		last := len(waiting) - 1
		from := waiting[last]
		waiting = waiting[:last]
		for _, to := range spreaders[from] {
			if joined := keys[to].with(keys[from]); joined != keys[to] {
				keys[to] = joined
				waiting = append(waiting, to)
			}
		}
	}
}
