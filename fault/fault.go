// Package fault is layer 1: see shared/doc/01-fault.md.
package fault

import (
	"errors"
	"strconv"
	"strings"

	"pythia/api"
)

// Fault is what went wrong, and where.
type Fault struct {
	code api.Errno
	at   int
}

// word is an error within a word.
type word struct {
	what string
	in   error
}

// Error tells a fault.
func (f *Fault) Error() string {
	return "fault " + strconv.Itoa(int(f.code)) + " at " + strconv.Itoa(f.at)
}

// Is tells whether a fault is of another one's code.
func (f *Fault) Is(other error) bool {
	if g, ok := other.(*Fault); ok && g != nil {
		return f.code == g.code
	}
	return false
}

// Error tells the words and what they are around.
func (w *word) Error() string { return Text(w) }

// Unwrap lets errors.Is and errors.As look through the word.
func (w *word) Unwrap() error { return w.in }

// New makes a fault.
func New(code api.Errno, at int) error {
	if code == api.OK {
		return nil
	}
	return &Fault{code: code, at: at}
}

// Wrap wraps an error in a word.
func Wrap(e error, what string) error {
	if e == nil {
		return nil
	}
	return &word{what: what, in: e}
}

// Code is the code of the fault within.
func Code(e error) api.Errno {
	if e == nil {
		return api.OK
	}
	if f := find(e); f != nil {
		return f.code
	}
	return api.ErrOther
}

// At is the place of the fault within.
func At(e error) int {
	if f := find(e); f != nil {
		return f.at
	}
	return 0
}

// Is tells whether an error is of a code.
func Is(e error, code api.Errno) bool {
	// The fault found is asked, not e: e may hold others beside it, of which Code tells nothing.
	if f := find(e); f != nil {
		return errors.Is(f, New(code, 0))
	}
	return Code(e) == code
}

// Path is the words in which an error is wrapped.
func Path(e error) []string {
	var words []string
	for ; e != nil; e = within(e) {
		if w := asWord(e); w != nil {
			words = append(words, w.what)
		}
	}
	return words
}

// Text tells an error.
func Text(e error) string {
	if e == nil {
		return ""
	}
	// Words are peeled off in a loop: were each to put its text ahead of the next one's, the work would grow with the square of their number.
	var b strings.Builder
	for w := asWord(e); w != nil; w = asWord(e) {
		b.WriteString(w.what)
		b.WriteString(": ")
		e = w.in
	}
	b.WriteString(ask(e))
	return b.String()
}

// find is the fault within an error; nil, if there is none. An error of somebody else may panic when it is asked: then nothing is in it.
func find(e error) (f *Fault) {
	defer func() {
		if recover() != nil {
			f = nil
		}
	}()
	if errors.As(e, &f) {
		return f
	}
	return nil
}

// within is what an error is wrapped around; nil, if it is around nothing, or panics when it is asked.
func within(e error) (in error) {
	defer func() {
		if recover() != nil {
			in = nil
		}
	}()
	return errors.Unwrap(e)
}

// ask is what an error says of itself; nothing, if it panics when it is asked.
func ask(e error) (text string) {
	defer func() {
		if recover() != nil {
			text = ""
		}
	}()
	return e.Error()
}

// asWord is the word that an error is; nil, if it is none.
func asWord(e error) *word {
	if w, ok := e.(*word); ok {
		return w
	}
	return nil
}
