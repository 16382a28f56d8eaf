package world

import (
	"strings"

	"pythia/api"
	"pythia/write"
)

// Threads is how many threads there ever were.
func (w *World) Threads() int { return w.spawned }

// State is a thread's state.
func (w *World) State(t int) int { return w.kernel.State(t) }

// Last is the event that ended a thread.
func (w *World) Last(t int) api.Line {
	x := w.threads[t]
	if x == nil {
		return api.Line{}
	}
	return x.Last()
}

// Asks is what a thread's job is about.
func (w *World) Asks(t int) api.Term { return w.kernel.Asks(t) }

// Lines are a thread's lines.
func (w *World) Lines(t int) []api.Term { return w.kernel.Lines(t) }

// Talk is what a thread has asked for, and was told.
func (w *World) Talk(t int) []api.Entry {
	x := w.threads[t]
	if x == nil {
		return nil
	}
	return x.Talk()
}

// Log is what has taken effect.
func (w *World) Log() []api.Entry { return w.kernel.Log() }

// Len is how many entries the log has.
func (w *World) Len() int { return w.kernel.Len() }

// Faults is how many calls touched what is freed.
func (w *World) Faults() int { return w.kernel.Faults() }

// Told is a thread's lines and its end as text.
func (w *World) Told(t int) string {
	var b strings.Builder
	for _, line := range w.Lines(t) {
		b.WriteString(textOf(line) + "\n")
	}
	b.WriteString(ending(w.Last(t)))
	return b.String()
}

// ending is the event that ended a thread as a line of text; nothing, if there is none.
func ending(l api.Line) string {
	switch l.Kind {
	case api.EvAnswer:
		return "yes " + textOf(l.Term) + "\n"
	case api.EvFail:
		return "no\n"
	case api.EvError:
		return "ball " + textOf(l.Term) + "\n"
	case api.EvLimit:
		return "limit " + textOf(l.Term) + "\n"
	}
	return ""
}

// textOf is a term's text, or a sign that it has none.
func textOf(t api.Term) string {
	s, err := write.Text(t)
	if err != api.OK {
		return "?"
	}
	return s
}
