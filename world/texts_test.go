package world_test

import (
	"math/rand"
	"strconv"
	"strings"
	"testing"

	"pythia/api"
	"pythia/base"
	"pythia/fault"
	"pythia/kernel"
	"pythia/ops"
	"pythia/read"
	"pythia/wam"
	"pythia/world"
)

// one is one of some.
func one[T any](r *rand.Rand, of ...T) T { return of[r.Intn(len(of))] }

// anyPieces is some text.
func anyPieces(r *rand.Rand, most int) string {
	var b strings.Builder
	for range r.Intn(most + 1) {
		b.WriteString(one(r, "a", "b", "p(", "p(a)", "X", "_", "3", "-", " - 1", "'a b'", "(", ")", "[", "]", "{", "}", "|", ",", ", ", " :- ", ":-", " eq ", "=", " is ", "!", ";", " -> ", `\+`,
			".", ". ", ". ", " . ", ".\n", "% c\n", "% c", "/* c */", "/*", "'", `"`, `\`, "0'a", "0'", "99999999999999999999", "\x00", "é", "true", "call(X)",
			":- op(700, xfx, eq). ", ":- op(0, xfx, eq). ", ":- op(200, xfy, eq)", ":- op(9, xfx, ','). "))
	}
	return b.String()
}

// anyRight is some text that is mostly right.
func anyRight(r *rand.Rand, most int, end string) string {
	var all []string
	for range 1 + r.Intn(most) {
		all = append(all, one(r, "a", "p(X)", "p(a), q(X)", "a eq b", "a :- b", "p(X) :- q(X), !", "X = Y", "[a]", "{a}", "- 1", "a % c\n", ":- op(700, xfx, eq)", ":- op(0, xfx, eq)", "3", "X", "3 :- a", "!", "a b"))
	}
	return strings.Join(all, one(r, ". ", ".\n", " . ")) + end
}

// step is one thing that New looks at: what is wrong with it, and what it is wrapped in.
type step struct {
	word string
	look func() error
}

// wrongWith is what New is to find first, as text, by the chapter's words.
func wrongWith(c api.Conf, program string, goals []string) string {
	table := ops.New()
	var terms []api.Read
	var own []api.Clause
	steps := []step{
		{"program", func() (e error) { terms, e = read.All(table, program); return e }},
		{"program", func() error {
			for _, x := range terms {
				clause, e := base.Clause(x.Term)
				if e != api.OK {
					return fault.New(api.ErrClause, x.At)
				}
				own = append(own, clause)
			}
			return nil
		}},
		{"program", func() error {
			_, e := wam.New(own, at("goal"), conf().Limits)
			return fault.New(e, 0)
		}},
	}
	for _, goal := range goals {
		steps = append(steps, step{"goal", func() error { return wrongGoal(table, goal) }})
	}
	steps = append(steps, step{"kernel", func() error {
		k, e := kernel.New(c, nil)
		for n := 0; n < len(goals) && e == api.OK; n++ {
			_, e = k.Spawn(at("goal"))
		}
		return fault.New(e, 0)
	}})
	for _, s := range steps {
		if e := s.look(); e != nil {
			return fault.Text(fault.Wrap(e, s.word))
		}
	}
	return ""
}

// wrongGoal is what is wrong with a goal's text, as it stands.
func wrongGoal(table *ops.Table, goal string) error {
	terms, e := read.All(table, goal)
	if e == nil && (len(terms) != 1 || terms[0].Term.Kind < api.Atom) {
		e = fault.New(api.ErrClause, 0)
	}
	return e
}

// P22.1, P1: New at a great many texts, right ones, nearly right ones and others, and at Confs of every size: the first error that applies, or a world.
func TestAnyTexts(t *testing.T) {
	r := rand.New(rand.NewSource(221))
	met := map[string]int{}
	for range 60000 {
		c := conf()
		if r.Intn(4) == 0 {
			c = api.Conf{Threads: r.Intn(6) - 1, Cells: 55 + r.Intn(10), Limbo: r.Intn(4) - 1}
		}
		program := one(r, "", "p. ", ":- op(700, xfx, eq). p. ") + one(r, anyPieces(r, 8), anyRight(r, 3, "."), "")
		var goals []string
		for range r.Intn(4) {
			goals = append(goals, one(r, anyPieces(r, 6), anyRight(r, 1, one(r, ".", ". ", "\n.")), anyRight(r, 1, "."), anyRight(r, 2, one(r, "", ".", ". ", " ."))))
		}
		want := wrongWith(c, program, goals)
		w, e := world.New(c, program, goals)
		if fault.Text(e) != want || (w == nil) != (want != "") {
			t.Fatalf("New(%v, %q, %q): %q, not %q", c, program, goals, fault.Text(e), want)
		}
		met[strings.Join(append(fault.Path(e), strconv.Itoa(int(fault.Code(e)))), " ")]++
		if w != nil {
			w.Rest(2000)
			if w.Faults() != 0 || w.Threads() < len(goals) {
				t.Fatalf("%q, %q: %d faults, %d threads", program, goals, w.Faults(), w.Threads())
			}
		}
	}
	for _, what := range []string{"0", "program token 80", "program token 81", "program token 82", "program token 83", "program term 100", "program term 101", "program term 90", "program 160", "program 161",
		"goal token 80", "goal token 81", "goal token 83", "goal term 100", "goal term 101", "goal term 90", "goal 160", "kernel 21", "kernel 3"} {
		if met[what] < 20 {
			t.Errorf("%s: met %d times of %v", what, met[what], met)
		}
	}
}
