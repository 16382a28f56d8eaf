package code_test

import (
	"math"
	"math/rand"
	"slices"
	"testing"

	"pythia/api"
	"pythia/code"
	"pythia/term"
)

// ranged are the least and the greatest A that an instruction may have at a place; no A, if it isn't known.
func ranged(c code.Code, place, op int) (int, int) {
	switch op {
	case code.Get:
		return 1, c.Pred.Arity
	case code.Fork, code.Jump:
		return place + 1, len(c.Ins) - 1
	case code.Save, code.Back:
		if c.Slots < 1 {
			return 0, -1
		}
		return 0, c.Slots - 1
	case code.Call, code.Cut, code.Fail, code.Done:
		return 0, 0
	}
	return 0, -1
}

// isRight tells by the chapter's words whether code is right.
func isRight(c code.Code) bool {
	if len(c.Ins) == 0 || c.Ins[len(c.Ins)-1].Op != code.Done {
		return false
	}
	for place, i := range c.Ins {
		least, most := ranged(c, place, i.Op)
		if i.A < least || i.A > most {
			return false
		}
		if i.Op != code.Get && i.Op != code.Call {
			if i.T.Kind != 0 {
				return false
			}
			continue
		}
		above := func(v int64) bool { return v > int64(c.Vars) }
		if term.Check(i.T) != api.OK || slices.ContainsFunc(term.Vars(i.T), above) {
			return false
		}
	}
	return true
}

// turned fails, if Right doesn't tell of code, with one instruction in the place of another one, what its words say.
func turned(t *testing.T, c code.Code, place int, i code.Ins) {
	t.Helper()
	was := c.Ins[place]
	c.Ins[place] = i
	if want := isRight(c); code.Right(c) != want {
		t.Fatalf("Right = %v at place %d of %.600s", !want, place, listing(c))
	}
	c.Ins[place] = was
}

// P18.2, P18.1: what is right, with each field of each instruction turned.
func TestTurned(t *testing.T) {
	r := rand.New(rand.NewSource(182))
	var wrongs []api.Term
	for _, w := range wrong() {
		wrongs = append(wrongs, w)
	}
	for n, cls := range inputs(r, 150) {
		c := compiled(t, cls)
		if n%2 == 0 {
			c = goal(t, cls.Body)
		}
		for place, i := range c.Ins {
			for _, op := range []int{i.Op - 1, i.Op + 1, 0, 10, -1, 1 + r.Intn(9)} {
				turned(t, c, place, code.Ins{Op: op, A: i.A, T: i.T})
				turned(t, c, place, code.Ins{Op: op, A: r.Intn(len(c.Ins) + 1), T: i.T})
			}
			for _, a := range []int{i.A - 1, i.A + 1, -1, 0, 1, place - 1, place, place + 1, len(c.Ins) - 1, len(c.Ins), c.Slots - 1, c.Slots, c.Pred.Arity, c.Pred.Arity + 1, math.MaxInt, math.MinInt} {
				turned(t, c, place, code.Ins{Op: i.Op, A: a, T: i.T})
			}
			for _, u := range []api.Term{{}, {Name: "a"}, va(1), va(int64(c.Vars)), va(int64(c.Vars) + 1), va(math.MaxInt64), co("f", va(int64(c.Vars)+1)), nu(0), at("a"), untidy(at("a")), wrongs[r.Intn(len(wrongs))]} {
				turned(t, c, place, code.Ins{Op: i.Op, A: i.A, T: u})
			}
		}
		if !code.Right(c) {
			t.Fatalf("Right = false of %.600s", listing(c))
		}
	}
}

// withIns is code of a predicate of arity 2, with two variables and two slots.
func withIns(ins ...code.Ins) code.Code {
	return code.Code{Pred: api.Pred{Name: "p", Arity: 2}, Vars: 2, Slots: 2, Ins: ins}
}

// P18.2: each word of Right's, by itself.
func TestRight(t *testing.T) {
	done, cut := code.Ins{Op: code.Done}, code.Ins{Op: code.Cut}
	right := map[string]code.Code{
		"Done alone":               withIns(done),
		"Done alone, of nothing":   {Ins: []code.Ins{done}},
		"Done ahead of Done":       withIns(done, done),
		"all without fields":       withIns(cut, code.Ins{Op: code.Fail}, done),
		"the first argument":       withIns(code.Ins{Op: code.Get, A: 1, T: va(2)}, done),
		"the last argument":        withIns(code.Ins{Op: code.Get, A: 2, T: co("f", va(1), nu(3))}, done),
		"a call":                   withIns(code.Ins{Op: code.Call, T: co("f", va(2), va(1))}, done),
		"a call of a number":       withIns(code.Ins{Op: code.Call, T: nu(-1)}, done),
		"an untidy call":           withIns(code.Ins{Op: code.Call, T: untidy(co("f", at("a"), va(2)))}, done),
		"the next instruction":     withIns(code.Ins{Op: code.Fork, A: 1}, done),
		"the last instruction":     withIns(code.Ins{Op: code.Jump, A: 3}, cut, cut, done),
		"the first slot":           withIns(code.Ins{Op: code.Save}, code.Ins{Op: code.Back}, done),
		"the last slot":            withIns(code.Ins{Op: code.Back, A: 1}, code.Ins{Op: code.Save, A: 1}, done),
		"a term that is no kind's": withIns(code.Ins{Op: code.Cut, T: api.Term{Name: "a", Int: 3}}, done),
		"as great a term as may be": withIns(
			code.Ins{Op: code.Call, T: sized(2000)}, code.Ins{Op: code.Get, A: 1, T: tower(va(1), "s", 99)}, done),
		"more arguments than MaxArity": {Pred: api.Pred{Arity: 3000}, Vars: 3000, Ins: []code.Ins{{Op: code.Get, A: 3000, T: va(3000)}, done}},
	}
	for what, c := range right {
		if !code.Right(c) || !isRight(c) {
			t.Errorf("%s isn't right", what)
		}
	}
	single := map[string]code.Ins{
		"Op 0":                     {},
		"Op 10":                    {Op: 10},
		"Op below 0":               {Op: -1},
		"a great Op":               {Op: math.MaxInt},
		"argument 0":               {Op: code.Get, T: va(1)},
		"an argument below 0":      {Op: code.Get, A: -1, T: va(1)},
		"an argument above":        {Op: code.Get, A: 3, T: va(1)},
		"a great argument":         {Op: code.Get, A: math.MaxInt, T: va(1)},
		"a Get of nothing":         {Op: code.Get, A: 1},
		"a Get of another's":       {Op: code.Get, A: 1, T: va(3)},
		"a Get within another's":   {Op: code.Get, A: 1, T: co("f", at("a"), co("g", va(3)))},
		"a call of nothing":        {Op: code.Call},
		"a call with A":            {Op: code.Call, A: 1, T: at("a")},
		"a call of another's":      {Op: code.Call, T: va(3)},
		"a call of one far above":  {Op: code.Call, T: va(1<<63 - 1)},
		"a call within another's":  {Op: code.Call, T: co("f", va(2), co("g", va(3)))},
		"a Cut with A":             {Op: code.Cut, A: 1},
		"a Cut with T":             {Op: code.Cut, T: at("a")},
		"a Cut with a wrong T":     {Op: code.Cut, T: api.Term{Kind: 7}},
		"a Fork to itself":         {Op: code.Fork, A: 1},
		"a Fork that leads back":   {Op: code.Fork},
		"a Fork below 0":           {Op: code.Fork, A: -1},
		"a Fork behind the end":    {Op: code.Fork, A: 4},
		"a Fork far behind":        {Op: code.Fork, A: math.MaxInt},
		"a Fork with T":            {Op: code.Fork, A: 2, T: nu(1)},
		"a Jump to itself":         {Op: code.Jump, A: 1},
		"a Jump that leads back":   {Op: code.Jump},
		"a Jump behind the end":    {Op: code.Jump, A: 4},
		"a Jump with T":            {Op: code.Jump, A: 2, T: va(1)},
		"a Save of another's":      {Op: code.Save, A: 2},
		"a Save below 0":           {Op: code.Save, A: -1},
		"a Save with T":            {Op: code.Save, T: at("a")},
		"a Back of another's":      {Op: code.Back, A: 2},
		"a Back below 0":           {Op: code.Back, A: -1},
		"a Back with T":            {Op: code.Back, T: at("a")},
		"a Fail with A":            {Op: code.Fail, A: 1},
		"a Fail with T":            {Op: code.Fail, T: at("a")},
		"a Done with A within":     {Op: code.Done, A: 1},
		"a Done with T within":     {Op: code.Done, T: at("a")},
		"a Done with A below 0":    {Op: code.Done, A: -1},
		"a Cut with A below 0":     {Op: code.Cut, A: -1},
		"a Call with A below 0":    {Op: code.Call, A: -1, T: at("a")},
		"a Fail with A far below":  {Op: code.Fail, A: math.MinInt},
		"a Get with A far below":   {Op: code.Get, A: math.MinInt, T: at("a")},
		"a Save with A far below":  {Op: code.Save, A: math.MinInt},
		"a Jump with A far below":  {Op: code.Jump, A: math.MinInt},
		"a Save with A far above":  {Op: code.Save, A: math.MaxInt},
		"a Fork with a variable 0": {Op: code.Fork, A: 2, T: va(0)},
	}
	for what, i := range single {
		if c := withIns(cut, i, cut, done); code.Right(c) || isRight(c) {
			t.Errorf("%s is right", what)
		}
	}
	for what, w := range wrong() {
		for _, i := range []code.Ins{{Op: code.Call, T: w}, {Op: code.Get, A: 1, T: w}, {Op: code.Call, T: co("f", w)}} {
			if code.Right(withIns(i, done)) {
				t.Errorf("%s is right", what)
			}
		}
	}
}

// P18.2: how code ends, and what stands beside its instructions.
func TestRightEnds(t *testing.T) {
	done := code.Ins{Op: code.Done}
	for what, c := range map[string]code.Code{
		"no code":              {},
		"no instructions":      withIns(),
		"a last Cut":           withIns(code.Ins{Op: code.Cut}),
		"a last Fail":          withIns(done, code.Ins{Op: code.Fail}),
		"a last Call":          withIns(done, code.Ins{Op: code.Call, T: at("a")}),
		"a last Jump":          withIns(code.Ins{Op: code.Jump, A: 1}),
		"a last Done with A":   withIns(code.Ins{Op: code.Done, A: 1}),
		"a last Done with T":   withIns(code.Ins{Op: code.Done, T: at("a")}),
		"a last Op of none":    withIns(done, code.Ins{Op: 10}),
		"a Jump to its end":    withIns(code.Ins{Op: code.Jump, A: 2}, done),
		"no argument":          {Vars: 9, Slots: 9, Ins: []code.Ins{{Op: code.Get, A: 1, T: at("a")}, done}},
		"no variable":          {Pred: api.Pred{Arity: 1}, Slots: 9, Ins: []code.Ins{{Op: code.Get, A: 1, T: va(1)}, done}},
		"no slot":              {Pred: api.Pred{Arity: 1}, Vars: 9, Ins: []code.Ins{{Op: code.Save}, done}},
		"an arity below 0":     {Pred: api.Pred{Arity: math.MinInt}, Vars: 9, Ins: []code.Ins{{Op: code.Get, A: 1, T: at("a")}, done}},
		"variables below 0":    {Vars: math.MinInt, Ins: []code.Ins{{Op: code.Call, T: va(1)}, done}},
		"slots far below 0":    {Slots: math.MinInt, Ins: []code.Ins{{Op: code.Save}, done}},
		"slots far below 0, A": {Slots: math.MinInt, Ins: []code.Ins{{Op: code.Back, A: math.MaxInt}, done}},
		"great slots, A below": {Slots: math.MaxInt, Ins: []code.Ins{{Op: code.Save, A: -1}, done}},
	} {
		if code.Right(c) {
			t.Errorf("%s is right", what)
		}
	}
}

// anyCode is some code, right or not.
func anyCode(r *rand.Rand) code.Code {
	c := code.Code{Pred: api.Pred{Name: "p", Arity: r.Intn(4)}, Vars: r.Intn(4), Slots: r.Intn(4)}
	count := 1 + r.Intn(5)
	for place := range count {
		i := code.Ins{Op: 1 + r.Intn(9)}
		if place == count-1 && r.Intn(4) > 0 {
			i.Op = code.Done
		}
		if i.Op == code.Get || i.Op == code.Call {
			i.T = co("f", va(1+int64(r.Intn(c.Vars+1))))
		}
		if i.Op != code.Call && i.Op < code.Fail && i.Op != code.Cut || r.Intn(9) == 0 {
			i.A = r.Intn(6)
		}
		c.Ins = append(c.Ins, i)
	}
	return c
}

// P18.2: any code beside the chapter's words.
func TestAnyCode(t *testing.T) {
	r := rand.New(rand.NewSource(1822))
	counts := map[bool]int{}
	for range 200000 {
		c := anyCode(r)
		want := isRight(c)
		if code.Right(c) != want {
			t.Fatalf("Right = %v of %s", !want, listing(c))
		}
		counts[want]++
	}
	if counts[true] < 5000 || counts[false] < 5000 {
		t.Errorf("%d are right, %d aren't", counts[true], counts[false])
	}
}
