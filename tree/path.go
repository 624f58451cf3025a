package tree

import (
	"cmp"
	"slices"
	"strconv"
	"strings"

	"pergola/api"
)

// PathText is a path as one text.
func PathText(path []api.Step) string {
	var out []byte
	for _, step := range path {
		out = append(out, '/')
		if step.Item {
			out = strconv.AppendInt(out, int64(step.Index), 10)
		} else {
			out = appendName(out, step.Name)
		}
	}
	return string(out)
}

// appendName lays a name's text behind out, so that it is never empty and never looks like an item's number.
func appendName(out []byte, name string) []byte {
	if name == "" || beginsNumber(name) {
		out = append(out, "~2"...)
	}
	for i := range len(name) {
		switch name[i] {
		case '~':
			out = append(out, "~0"...)
		case '/':
			out = append(out, "~1"...)
		default:
			out = append(out, name[i])
		}
	}
	return out
}

func beginsNumber(s string) bool {
	return s != "" && (s[0] == '-' || '0' <= s[0] && s[0] <= '9')
}

// PathRead is PathText backwards.
func PathRead(s string) ([]api.Step, bool) {
	var path []api.Step
	for _, text := range strings.Split(s, "/")[1:] {
		path = append(path, readStep(text))
	}
	// Steps are read leniently: what was no path's text is told by that it doesn't come back.
	if PathText(path) != s {
		return nil, false
	}
	return path, true
}

// readStep is the step that has this text, if there is one; else some other step.
func readStep(text string) api.Step {
	if beginsNumber(text) {
		index, _ := strconv.Atoi(text)
		return api.Step{Index: index, Item: true}
	}
	name := strings.TrimPrefix(text, "~2")
	name = strings.ReplaceAll(name, "~1", "/")
	return api.Step{Name: strings.ReplaceAll(name, "~0", "~")}
}

// plain is a step with what its kind doesn't use at zero: alike steps become one by ==.
func plain(step api.Step) api.Step {
	if step.Item {
		return api.Step{Index: step.Index, Item: true}
	}
	return api.Step{Name: step.Name}
}

func alike(a, b api.Step) bool {
	return plain(a) == plain(b)
}

// Compare orders paths.
func Compare(a, b []api.Step) int {
	return slices.CompareFunc(a, b, orderSteps)
}

func orderSteps(a, b api.Step) int {
	switch {
	case alike(a, b):
		return 0
	case a.Item && b.Item:
		return cmp.Compare(a.Index, b.Index)
	case a.Item:
		return -1
	case b.Item:
		return 1
	}
	return strings.Compare(a.Name, b.Name)
}

// Under: does a lie at b or beneath it?
func Under(a, b []api.Step) bool {
	return len(b) <= len(a) && slices.EqualFunc(a[:len(b)], b, alike)
}
