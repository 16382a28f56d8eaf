package thread

import (
	"pythia/api"
	"pythia/term"
)

func atom(name string) api.Term { return api.Term{Kind: api.Atom, Name: name} }

func compound(name string, args ...api.Term) api.Term {
	return api.Term{Kind: api.Comp, Name: name, Args: args}
}

// status is what a thread is told to have come to that an event has ended.
func status(e api.Event) api.Term {
	switch e.Kind {
	case api.EvAnswer:
		return atom("true")
	case api.EvFail:
		return atom("false")
	case api.EvError:
		return compound("exception", e.Term)
	default: // an EvLimit, with resource_error(W)
		return compound("limit", e.Term.Args...)
	}
}

// anew is a term in new memory.
func anew(t api.Term) api.Term {
	own, _ := term.Apply(t, nil)
	return own
}

func replyAnew(r api.Reply) api.Reply {
	var alts []api.Term
	for _, alt := range r.Alts {
		alts = append(alts, anew(alt))
	}
	return api.Reply{Ok: r.Ok, Alts: alts, Ball: anew(r.Ball)}
}
