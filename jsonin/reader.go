package jsonin

import (
	"pergola/api"
	"pergola/number"
)

// A reader goes through the bytes from the left to the right and never back, so the fault that it meets first is the first one.
type reader struct {
	src  []byte
	at   int // the byte that is read next
	room int // how many brackets more may be opened here
}

// A refusal is what the reader panics with at a fault: it stands at any depth, and nothing around it has more to say.
type refusal struct {
	at    int
	errno api.Errno
}

// fault is what a refusal that was recovered tells. Anything else that panics is a mistake of this package, and is not hidden.
func fault(recovered any) (int, api.Errno) {
	r := recovered.(refusal)
	return r.at, r.errno
}

func refuse(at int, errno api.Errno) {
	panic(refusal{at, errno})
}

// stop: no JSON text goes on with what stands here.
func (r *reader) stop() {
	refuse(r.at, api.ErrJson)
}

// peek is the byte that stands here; wherever it is asked, the text can't end yet.
func (r *reader) peek() byte {
	if r.at == len(r.src) {
		r.stop()
	}
	return r.src[r.at]
}

// pass goes behind the one byte that may stand here.
func (r *reader) pass(c byte) {
	if r.peek() != c {
		r.stop()
	}
	r.at++
}

func (r *reader) word(letters string) {
	for i := range len(letters) {
		r.pass(letters[i])
	}
}

func (r *reader) blanks() {
blanks:
	for r.at < len(r.src) {
		switch r.src[r.at] {
		case ' ', '\t', '\n', '\r':
			r.at++
		default:
			break blanks
		}
	}
}

// whole reads a value with nothing but blanks around it.
func (r *reader) whole() api.Value {
	r.blanks()
	v := r.value()
	r.blanks()
	if r.at < len(r.src) {
		r.stop()
	}
	return v
}

func (r *reader) value() api.Value {
	switch r.peek() {
	case 'n':
		r.word("null")
		return api.Value{}
	case 't':
		r.word("true")
		return api.Value{Kind: api.KindBool, Bool: true}
	case 'f':
		r.word("false")
		return api.Value{Kind: api.KindBool}
	case '"':
		return api.Value{Kind: api.KindString, Text: r.text()}
	case '[':
		return r.list()
	case '{':
		return r.object()
	}
	return r.number()
}

// number also takes what begins no value at all: that is no number either, and its first byte can't go on.
func (r *reader) number() api.Value {
	end, stop, form := number.Prefix(r.src, r.at)
	if form == api.FormNone || end < stop {
		refuse(stop, api.ErrJson)
	}
	n, errno := number.Read(string(r.src[r.at:end]))
	if errno != api.OK {
		refuse(r.at, errno)
	}
	r.at = end
	return api.Value{Kind: n.Kind, Int: n.Int, Float: n.Float}
}

func (r *reader) list() api.Value {
	v := api.Value{Kind: api.KindList}
	r.bracketed(']', func() {
		v.Items = append(v.Items, r.value())
	})
	return v
}

func (r *reader) object() api.Value {
	v := api.Value{Kind: api.KindObject}
	seen := map[string]struct{}{}
	r.bracketed('}', func() {
		from := r.at
		name := r.text()
		if _, ok := seen[name]; ok {
			refuse(from, api.ErrTwice)
		}
		seen[name] = struct{}{}
		r.blanks()
		r.pass(':')
		r.blanks()
		v.Fields = append(v.Fields, api.Member{Name: name, Value: r.value()})
	})
	return v
}

// bracketed reads from an opening bracket to behind the one that shuts it; element reads what stands between commas.
func (r *reader) bracketed(shut byte, element func()) {
	if r.room == 0 {
		refuse(r.at, api.ErrDepth)
	}
	r.room--
	r.at++
	r.blanks()
	if r.peek() != shut {
		r.elements(shut, element)
	}
	r.pass(shut)
	r.room++
}

// elements reads at least one, up to the bracket that shuts.
func (r *reader) elements(shut byte, element func()) {
elements:
	for {
		element()
		r.blanks()
		switch r.peek() {
		case ',':
			r.at++
			r.blanks()
		case shut:
			break elements
		default:
			r.stop()
		}
	}
}
