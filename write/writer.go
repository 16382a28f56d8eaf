package write

import (
	"strconv"
	"strings"

	"pythia/api"
	"pythia/lex"
	"pythia/term"
)

// writer is a text under way.
type writer struct {
	strings.Builder
}

// term writes a term.
func (w *writer) term(t api.Term) {
	switch t.Kind {
	case api.Var:
		w.WriteByte('_')
		fallthrough // its number is written as any number
	case api.Num:
		w.WriteString(strconv.FormatInt(t.Int, 10))
	case api.Atom:
		w.atom(t.Name)
	case api.Comp:
		w.compound(t)
	}
}

// atom writes an atom.
func (w *writer) atom(name string) {
	if name == "[]" || name == "{}" {
		w.WriteString(name)
		return
	}
	w.name(name)
}

// name writes a name, in quotes where it needs them.
func (w *writer) name(name string) {
	if lex.Bare(name) {
		w.WriteString(name)
		return
	}
	w.WriteByte('\'')
	for _, c := range []byte(name) {
		w.inQuotes(c)
	}
	w.WriteByte('\'')
}

// inQuotes writes a byte of a name in quotes.
func (w *writer) inQuotes(c byte) {
	switch c {
	case '\n':
		w.WriteString(`\n`)
	case '\t':
		w.WriteString(`\t`)
	case '\'', '\\':
		w.WriteByte('\\')
		fallthrough // it stands for itself behind the \
	default:
		w.WriteByte(c)
	}
}

// compound writes a compound term.
func (w *writer) compound(t api.Term) {
	if t.Name == "." && len(t.Args) == 2 {
		w.list(t)
		return
	}
	w.name(t.Name)
	w.WriteByte('(')
	w.terms(t.Args)
	w.WriteByte(')')
}

// list writes a list.
func (w *writer) list(t api.Term) {
	items, end := term.Items(t)
	w.WriteByte('[')
	w.terms(items)
	if end.Kind != api.Atom || end.Name != "[]" {
		w.WriteByte('|')
		w.term(end)
	}
	w.WriteByte(']')
}

// terms writes terms with commas between.
func (w *writer) terms(ts []api.Term) {
	for i, t := range ts {
		if i > 0 {
			w.WriteByte(',')
		}
		w.term(t)
	}
}
