package introspect

import "pergola/api"

const usualReason = "No longer supported"

// argumentOf is an argument of the use of a directive among those that something bears: is the directive borne, and has its use the argument?
func argumentOf(dirs []api.Dir, directive, name string) (arg api.Lit, borne, has bool) {
	use, borne := first(dirs, directive, dirName)
	found, has := first(use.Args, name, argName)
	return found.Value, borne, has
}

func isDeprecated(dirs []api.Dir) bool {
	_, borne := first(dirs, "deprecated", dirName)
	return borne
}

func deprecationReason(dirs []api.Dir) api.Value {
	reason, borne, has := argumentOf(dirs, "deprecated", "reason")
	switch {
	case borne && !has:
		return text(usualReason)
	case reason.Kind == api.LitString:
		return text(reason.Text)
	}
	return api.Value{}
}

// shown are those of the things that the arguments let be told: the deprecated ones only if they are asked for.
func shown[T any](things []T, args []api.Member, dirsOf func(T) []api.Dir) []T {
	asked, _ := first(args, "includeDeprecated", memberName)
	if asked.Value.Kind == api.KindBool && asked.Value.Bool {
		return things
	}
	var kept []T
	for _, thing := range things {
		if !isDeprecated(dirsOf(thing)) {
			kept = append(kept, thing)
		}
	}
	return kept
}

func fieldDirs(d api.FieldDef) []api.Dir { return d.Dirs }
func valueDirs(d api.ValueDef) []api.Dir { return d.Dirs }
