package code_test

import (
	"math/rand"
	"slices"
	"strings"
	"testing"

	"pythia/api"
	"pythia/code"
)

// model puts bodies into code as lists of their own, whose Forks and Jumps tell how far it is to where they lead.
type model struct{ slots int }

// isA tells whether a term has this name and so many arguments.
func isA(t api.Term, name string, args int) bool {
	return t.Kind >= api.Atom && t.Name == name && len(t.Args) == args
}

func (m *model) body(t api.Term, cut code.Ins) []code.Ins {
	switch {
	case isA(t, "true", 0):
		return nil
	case isA(t, "fail", 0) || isA(t, "false", 0):
		return []code.Ins{{Op: code.Fail}}
	case isA(t, "!", 0):
		return []code.Ins{cut}
	case isA(t, ",", 2):
		return slices.Concat(m.body(t.Args[0], cut), m.body(t.Args[1], cut))
	case isA(t, ";", 2) && isA(t.Args[0], "->", 2):
		return m.choice(t.Args[0].Args[0], t.Args[0].Args[1], t.Args[1], cut)
	case isA(t, "->", 2):
		return m.choice(t.Args[0], t.Args[1], at("fail"), cut)
	case isA(t, ";", 2):
		a := m.body(t.Args[0], cut)
		b := m.body(t.Args[1], cut)
		return slices.Concat(far(code.Fork, len(a)+2), a, far(code.Jump, len(b)+1), b)
	case isA(t, `\+`, 1):
		s := m.two()
		c := m.body(t.Args[0], code.Ins{Op: code.Back, A: s + 1})
		return slices.Concat(far(code.Save, s), far(code.Fork, len(c)+4), far(code.Save, s+1), c, far(code.Back, s), far(code.Fail, 0))
	}
	return []code.Ins{{Op: code.Call, T: t}}
}

// choice is a condition, what is done behind it, and what is done without it.
func (m *model) choice(c, t, e api.Term, cut code.Ins) []code.Ins {
	s := m.two()
	is := m.body(c, code.Ins{Op: code.Back, A: s + 1})
	then := m.body(t, cut)
	otherwise := m.body(e, cut)
	return slices.Concat(
		far(code.Save, s), far(code.Fork, len(is)+len(then)+4), far(code.Save, s+1), is,
		far(code.Back, s), then, far(code.Jump, len(otherwise)+1), otherwise,
	)
}

// two are the least two slots that weren't used yet: the first of them.
func (m *model) two() int {
	m.slots += 2
	return m.slots - 2
}

// far is one instruction.
func far(op, a int) []code.Ins { return []code.Ins{{Op: op, A: a}} }

// modelled is the code of a head and a body.
func modelled(head, body api.Term) code.Code {
	numbers := map[int64]int64{}
	head, body = numbered(head, numbers), numbered(body, numbers)
	var all []code.Ins
	for i, arg := range head.Args {
		all = append(all, code.Ins{Op: code.Get, A: i + 1, T: arg})
	}
	var m model
	all = slices.Concat(all, m.body(body, code.Ins{Op: code.Cut}), far(code.Done, 0))
	for i := range all {
		if all[i].Op == code.Fork || all[i].Op == code.Jump {
			all[i].A += i
		}
	}
	return code.Code{Pred: api.Pred{Name: head.Name, Arity: len(head.Args)}, Vars: len(numbers), Slots: m.slots, Ins: all}
}

// modelledGoal is the code of a goal.
func modelledGoal(g api.Term) code.Code {
	numbers := map[int64]int64{}
	g = numbered(g, numbers)
	var args []api.Term
	for n := range len(numbers) {
		args = append(args, va(int64(n+1)))
	}
	return modelled(headOf("$goal", args...), g)
}

// numbered is a term whose variables are numbered from 1 on as they come.
func numbered(t api.Term, numbers map[int64]int64) api.Term {
	switch t.Kind {
	case api.Var:
		if numbers[t.Int] == 0 {
			numbers[t.Int] = int64(len(numbers) + 1)
		}
		t.Int = numbers[t.Int]
	case api.Comp:
		var args []api.Term
		for _, arg := range t.Args {
			args = append(args, numbered(arg, numbers))
		}
		t.Args = args
	}
	return t
}

// check fails, if a clause or its body as a goal isn't put into code as the model does it.
func check(t *testing.T, c api.Clause) {
	t.Helper()
	got, want := compiled(t, c), modelled(c.Head, c.Body)
	if !sameCode(got, want) {
		t.Fatalf("%.300s :- %.300s:\n%.600s, not\n%.600s", text(c.Head), text(c.Body), listing(got), listing(want))
	}
	sound(t, got)
	got, want = goal(t, c.Body), modelledGoal(c.Body)
	if !sameCode(got, want) {
		t.Fatalf("%.300s as a goal:\n%.600s, not\n%.600s", text(c.Body), listing(got), listing(want))
	}
	sound(t, got)
}

// sound fails, if code isn't right, or not in the order that all code has.
func sound(t *testing.T, c code.Code) {
	t.Helper()
	saves, gets := 0, 0
	for place, i := range c.Ins {
		bad := false
		switch i.Op {
		case code.Get:
			bad = i.A != gets+1 || place != gets
			gets++
		case code.Save:
			bad = i.A != saves
			saves++
		case code.Back:
			bad = i.A >= saves
		case code.Fork, code.Jump:
			bad = i.A <= place || i.A >= len(c.Ins)
		case code.Done:
			bad = place != len(c.Ins)-1
		}
		if bad {
			t.Fatalf("place %d of %.600s", place, listing(c))
		}
	}
	if !code.Right(c) || saves != c.Slots || gets != c.Pred.Arity || c.Ins[len(c.Ins)-1].Op != code.Done {
		t.Fatalf("%v, %d slots: %.600s", code.Right(c), saves, listing(c))
	}
}

// madeOf are all bodies of these parts.
func madeOf(parts []api.Term) []api.Term {
	var all []api.Term
	for _, a := range parts {
		all = append(all, co(`\+`, a))
		for _, b := range parts {
			all = append(all, co(",", a, b), co(";", a, b), co("->", a, b))
		}
	}
	return all
}

// P18.1, P18.2: all short bodies, each kind within each other one.
func TestAllBodies(t *testing.T) {
	flat := slices.Concat(leaves(), madeOf(leaves()))
	for i, body := range slices.Concat(leaves(), madeOf(flat)) {
		head := []api.Term{at("p"), co("p", va(2)), co("p", nu(1), va(6), va(2))}[i%3]
		check(t, cl(head, noNumber(body)))
	}
}

// P18.1, P18.2: all short bodies within a condition of a condition, and behind one.
func TestConditions(t *testing.T) {
	ifElse := func(c, a, b api.Term) api.Term { return co(";", co("->", c, a), b) }
	cut := at("!")
	for _, b := range slices.Concat(leaves(), madeOf(leaves())) {
		not, then := co(`\+`, b), co("->", b, cut)
		choices := []api.Term{ifElse(b, cut, cut), ifElse(cut, b, cut), ifElse(cut, cut, b)}
		for _, c := range append(choices, not, then, co(";", cut, b), co(",", b, cut)) {
			check(t, cl(at("p"), ifElse(ifElse(c, cut, b), cut, cut)))
			check(t, cl(at("p"), ifElse(co(`\+`, c), b, cut)))
			check(t, cl(at("p"), co(`\+`, co(`\+`, c))))
			check(t, cl(at("p"), co(`\+`, ifElse(c, cut, b))))
			check(t, cl(at("p"), co("->", co("->", c, b), cut)))
			check(t, cl(co("p", va(1)), co(",", ifElse(c, c, c), ifElse(c, c, c))))
		}
	}
}

// P18.1, P18.2: long and deep bodies.
func TestAnyBodies(t *testing.T) {
	r := rand.New(rand.NewSource(181))
	for range 6000 {
		body := anyBody(r, 2+r.Intn(9))
		for sizeOf(body) > 1500 {
			body = anyBody(r, 8)
		}
		check(t, cl(anyHead(r), noNumber(body)))
	}
}

// sizeOf is how many symbols a term has.
func sizeOf(t api.Term) int {
	n := 1
	for _, arg := range t.Args {
		n += sizeOf(arg)
	}
	return n
}

// P18.1, P18.2: each kind within itself, on either side, as deep as a clause may be.
func TestDeepBodies(t *testing.T) {
	check(t, cl(at("p"), tower(at("!"), `\+`, 98)))
	for name := range strings.FieldsSeq(", ; ->") {
		left, right, both := at("!"), at("!"), at("a")
		for range 98 {
			left, right = co(name, left, at("!")), co(name, at("!"), right)
		}
		for range 9 {
			both = co(name, both, both)
		}
		for _, b := range []api.Term{left, right, both} {
			check(t, cl(at("p"), b))
			check(t, cl(co("p", va(1), nu(2)), b))
		}
	}
	// Conditions of conditions, and one behind the other.
	condition, chain := at("!"), at("!")
	for range 49 {
		condition = co(";", co("->", condition, at("!")), at("!"))
		chain = co(";", co("->", at("!"), at("!")), chain)
	}
	check(t, cl(at("p"), condition))
	check(t, cl(at("p"), chain))
}
