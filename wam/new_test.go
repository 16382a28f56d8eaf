package wam_test

import (
	"slices"
	"strconv"
	"strings"
	"testing"

	"pythia/api"
	"pythia/wam"
)

// refuses fails, if New doesn't answer this error, and no machine.
func refuses(t *testing.T, name string, program []api.Clause, goal api.Term, want api.Errno) {
	t.Helper()
	if m, e := wam.New(program, goal, roomyLimits()); e != want || m != nil {
		t.Errorf("%s: %v, %d, not %d", name, m != nil, e, want)
	}
}

// headWith is a head of a name and so many arguments.
func headWith(name string, args int) api.Term {
	if args == 0 {
		return at(name)
	}
	return co(name, slices.Repeat([]api.Term{va(1)}, args)...)
}

// static are the predicates that no program may have, each with how many arguments it has.
const static = `true/0 fail/0 false/0 =/2 \=/2 ==/2 \==/2 @</2 @=</2 @>/2 @>=/2 compare/3 var/1 nonvar/1 atom/1 integer/1 number/1 compound/1 atomic/1 callable/1 is_list/1 is/2 =:=/2 =\=/2 </2 =</2 >/2 >=/2 functor/3 arg/3 =../2 copy_term/2 ,/2 ;/2 ->/2 \+/1 !/0 catch/3 throw/1 call/1 call/2 call/3 call/4 call/5 call/6 call/7 call/8`

// P19.1: predicates that a program may not have, and others like them, that it may.
func TestStatic(t *testing.T) {
	all := map[string]int{}
	for p := range strings.FieldsSeq(static) {
		name, arity := p[:len(p)-2], int(p[len(p)-1]-'0')
		all[p]++
		refuses(t, p, []api.Clause{fact(headWith(name, arity))}, at("a"), api.ErrStatic)
		refuses(t, p, []api.Clause{fact(at("p")), cl(headWith(name, arity), at("a")), fact(at("q"))}, at("a"), api.ErrStatic)
	}
	for p := range strings.FieldsSeq(static + ` a/1 '$goal'/0 assertz/1 [] :-/2`) {
		name, _, _ := strings.Cut(p, "/")
		if strings.HasPrefix(p, "//") || name == "" {
			name = "/"
		}
		for arity := range 9 {
			if all[name+"/"+strconv.Itoa(arity)] > 0 {
				continue
			}
			g := headWith(name, arity)
			m := machine(t, []api.Clause{fact(g)}, g, roomyLimits())
			if e := m.Run(100); e.Kind != api.EvAnswer || !same(e.Term, g) {
				t.Errorf("%s/%d: %s", name, arity, eventText(e))
			}
		}
	}
}

// P19.1: clauses that are none, or not right, and goals that aren't right.
func TestWrong(t *testing.T) {
	for name, w := range wrong() {
		refuses(t, name+" as a head", []api.Clause{fact(w)}, at("a"), api.ErrClause)
		refuses(t, name+" as a body", []api.Clause{cl(at("p"), w)}, at("a"), api.ErrClause)
		refuses(t, name+" behind others", []api.Clause{fact(at("p")), cl(at("p"), w), fact(at("q"))}, at("a"), api.ErrClause)
		refuses(t, name+" as a goal", nil, w, api.ErrTerm)
		refuses(t, name+" as a goal", []api.Clause{fact(at("p"))}, w, api.ErrTerm)
		refuses(t, name+" in a goal", []api.Clause{fact(at("p"))}, co("p", w), api.ErrTerm)
	}
	for name, c := range map[string]api.Clause{
		"a variable as a head": fact(va(1)),
		"a number as a head":   fact(nu(1)),
		"a number as a body":   cl(at("p"), nu(1)),
		"no clause":            {},
		"too deep together":    cl(at("p"), tower(at("a"), "s", 99)),
		"too great together":   cl(sized(1000, at("a")), sized(1000, at("a"))),
	} {
		refuses(t, name, []api.Clause{c}, at("a"), api.ErrClause)
		refuses(t, name, []api.Clause{fact(at("p")), c}, at("a"), api.ErrClause)
	}
	// What is just right.
	for _, c := range []api.Clause{cl(at("p"), va(1)), cl(at("p"), tower(at("a"), "s", 98)), cl(sized(999, at("a")), sized(1000, at("a"))), fact(co("p", slices.Repeat([]api.Term{at(strings.Repeat("x", 64))}, 8)...))} {
		machine(t, []api.Clause{c}, at("a"), roomyLimits())
	}
	for _, g := range []api.Term{va(1), va(1<<63 - 1), nu(-1 << 63), at(""), tower(at("a"), "s", 99), sized(2000, va(9)), scattered(2000)} {
		machine(t, nil, g, roomyLimits())
	}
}

// some are clauses of so many predicates, each with so many clauses.
func some(preds, each int) []api.Clause {
	var all []api.Clause
	for i := range preds {
		for range each {
			all = append(all, fact(headWith("p"+strconv.Itoa(i/9), i%9)))
		}
	}
	return all
}

// P19.1: too many predicates, and too many clauses of one.
func TestTooMany(t *testing.T) {
	machine(t, some(60, 200), at("a"), roomyLimits())
	refuses(t, "61 predicates", some(61, 1), at("a"), api.ErrMany)
	refuses(t, "61 predicates", some(61, 200), at("a"), api.ErrMany)
	refuses(t, "201 clauses", some(1, 201), at("a"), api.ErrMany)
	refuses(t, "201 clauses of the last one", append(some(60, 200), fact(headWith("p6", 5))), at("a"), api.ErrMany)
	machine(t, append(some(60, 1), some(60, 199)...), at("a"), roomyLimits())
	refuses(t, "a million clauses", slices.Repeat([]api.Clause{fact(at("p"))}, 1000000), at("a"), api.ErrMany)
}

// P19.1: New's errors, in their order: clause by clause, then the goal.
func TestOrderOfErrors(t *testing.T) {
	wrong, static, many := cl(nu(1), at("a")), fact(at("true")), some(61, 1)
	full := some(60, 200)
	for name, c := range map[string]struct {
		program []api.Clause
		want    api.Errno
	}{
		"wrong, static":         {[]api.Clause{wrong, static}, api.ErrClause},
		"static, wrong":         {[]api.Clause{static, wrong}, api.ErrStatic},
		"one that is both":      {[]api.Clause{cl(at("true"), nu(1))}, api.ErrClause},
		"many, wrong":           {append(slices.Clone(many), wrong), api.ErrMany},
		"many, static":          {append(slices.Clone(many), static), api.ErrMany},
		"wrong, many":           {append([]api.Clause{wrong}, many...), api.ErrClause},
		"static, many":          {append([]api.Clause{static}, many...), api.ErrStatic},
		"a static one too many": {append(slices.Clone(full), static), api.ErrStatic},
		"a wrong one too many":  {append(slices.Clone(full), cl(at("p0"), api.Term{})), api.ErrClause},
		"nothing":               {nil, api.ErrTerm},
		"as many as may be":     {full, api.ErrTerm},
	} {
		for _, l := range []api.Limits{{}, roomyLimits(), {Heap: -1, Stack: -1, Trail: -1}} {
			if m, e := wam.New(c.program, api.Term{}, l); e != c.want || m != nil {
				t.Errorf("%s: %v, %d, not %d", name, m != nil, e, c.want)
			}
			if m, e := wam.New(c.program, at("a"), l); c.want != api.ErrTerm && (e != c.want || m != nil) {
				t.Errorf("%s, with a goal: %v, %d, not %d", name, m != nil, e, c.want)
			}
		}
	}
}
