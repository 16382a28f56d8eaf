package kernel

import (
	"slices"

	"pythia/api"
	"pythia/term"
)

// note notes what has taken effect.
func (k *Kernel) note(t int, ask api.Term, r api.Reply) {
	k.log = append(k.log, api.Entry{Pick: len(k.log), Thread: t, Ask: ask, Reply: r})
}

// Len is how many entries the log has.
func (k *Kernel) Len() int { return len(k.log) }

// Log is what has taken effect.
func (k *Kernel) Log() []api.Entry { return k.Since(0) }

// Since is what has taken effect, from an entry on.
func (k *Kernel) Since(n int) []api.Entry {
	var since []api.Entry
	for _, e := range k.log[min(max(n, 0), len(k.log)):] {
		e.Ask = anew(e.Ask)
		e.Reply = replyAnew(e.Reply)
		since = append(since, e)
	}
	return since
}

// anew is a term in new memory.
func anew(t api.Term) api.Term {
	own, _ := term.Apply(t, nil)
	return own
}

func allAnew(ts []api.Term) []api.Term {
	var own []api.Term
	for _, t := range ts {
		own = append(own, anew(t))
	}
	return own
}

func replyAnew(r api.Reply) api.Reply {
	return api.Reply{Ok: r.Ok, Alts: allAnew(r.Alts), Ball: anew(r.Ball)}
}

// mostListed is how many numbers stand in one list: with all that a predicate may have, it would be too deep a term.
const mostListed = 50

// listed are numbers as a list, or as a list of lists.
func listed(ids []int64) api.Term {
	var parts []api.Term
	for part := range slices.Chunk(ids, mostListed) {
		var numbers []api.Term
		for _, id := range part {
			numbers = append(numbers, number(id))
		}
		parts = append(parts, list(numbers))
	}
	if len(parts) == 1 {
		return parts[0]
	}
	return list(parts)
}

func list(ts []api.Term) api.Term {
	l, _ := term.List(ts, atom("[]"))
	return l
}
