package world

import (
	"testing"

	"pythia/api"
)

// P22.1: a term that has no text is told as "?". No program has such a line, since layer 8 reads no such name: this package alone can tell one.
func TestNoText(t *testing.T) {
	bell := api.Term{Kind: api.Atom, Name: "\a"}
	for _, c := range []struct {
		term api.Term
		want string
	}{
		{bell, "?"},
		{api.Term{}, "?"},
		{api.Term{Kind: api.Comp, Name: "f"}, "?"},
		{api.Term{Kind: api.Comp, Name: "f", Args: []api.Term{{Kind: api.Var, Int: 1}, bell}}, "?"},
		{api.Term{Kind: api.Atom, Name: "\x7f"}, "?"},
		{api.Term{Kind: api.Atom, Name: "é"}, "?"},
		{api.Term{Kind: api.Atom, Name: "a\n"}, `'a\n'`},
		{api.Term{Kind: api.Atom, Name: ""}, `''`},
		{api.Term{Kind: api.Atom, Name: "?"}, `?`},
	} {
		if got := textOf(c.term); got != c.want {
			t.Errorf("%v: %q, not %q", c.term, got, c.want)
		}
		for kind, word := range []string{"", "yes ", "", "ball ", "", "limit "} {
			want := ""
			if word != "" {
				want = word + c.want + "\n"
			}
			if kind == api.EvFail {
				want = "no\n"
			}
			if got := ending(api.Line{Kind: kind, Term: c.term}); got != want {
				t.Errorf("kind %d, %v: %q, not %q", kind, c.term, got, want)
			}
		}
	}
}
