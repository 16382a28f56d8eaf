package world_test

import (
	"slices"
	"strconv"

	"pythia/api"
	"pythia/base"
	"pythia/pure"
	"pythia/term"
)

// plain is what threads share as plain lists, queues and mutexes, on which each entry of a log is done at once. A thread that isn't over is in state 1 here, whether it waits or not.
type plain struct {
	most    int
	static  []api.Pred
	state   map[int]int
	goals   map[int]api.Term
	status  map[int]api.Term
	lines   map[int][]api.Term
	clauses map[api.Pred][]base.Found
	queues  map[int64]*plainQueue
	mutexes map[int64]*plainMutex
	made    [2]int64 // queues and mutexes
}

type plainQueue struct {
	most     int
	messages []api.Term
}

type plainMutex struct{ owner, times int }

func newPlain(most int, static []api.Pred) *plain {
	return &plain{
		most: min(max(most, 1), api.MaxThread), static: static,
		state: map[int]int{}, goals: map[int]api.Term{}, status: map[int]api.Term{}, lines: map[int][]api.Term{},
		clauses: map[api.Pred][]base.Found{}, queues: map[int64]*plainQueue{}, mutexes: map[int64]*plainMutex{},
	}
}

// spawn makes a thread; 0, if there is no room.
func (p *plain) spawn(goal api.Term) int {
	there := 0
	for _, s := range p.state {
		if s != 0 {
			there++
		}
	}
	if there >= p.most {
		return 0
	}
	t := len(p.state) + 1
	p.state[t], p.goals[t] = 1, renamed(goal)
	return t
}

// stateOf is the state of a thread of any number.
func (p *plain) stateOf(n int64) int {
	for t, s := range p.state {
		if int64(t) == n {
			return s
		}
	}
	return 0
}

// throws is the reply with the ball of a formal term.
func throws(name string, args ...api.Term) api.Reply {
	formal := at(name)
	if len(args) > 0 {
		formal = co(name, args...)
	}
	return api.Reply{Ball: co("error", formal, at("[]"))}
}

func given(name string, args ...api.Term) api.Reply {
	return api.Reply{Ok: true, Alts: []api.Term{co(name, args...)}}
}

func great(u api.Term) bool { return term.Depth(u) > 96 || term.Size(u) > 1990 }

// solvable tells whether two terms, their variables apart, have a solution.
func solvable(a, b api.Term) bool {
	apart, _, _ := term.Rename(a, 1<<40)
	_, ok, e := term.Solve(apart, b)
	return ok || e == api.ErrLong
}

// parts are the head and the body of a term as a clause.
func parts(u api.Term) (head, body api.Term, written bool) {
	if u.Name == ":-" && len(u.Args) == 2 {
		return u.Args[0], u.Args[1], true
	}
	return u, at("true"), false
}

// isStatic tells whether a predicate can be neither changed nor looked into.
func (p *plain) isStatic(q api.Pred) bool {
	own := []api.Pred{pred(",", 2), pred(";", 2), pred("->", 2), pred(`\+`, 1), pred("!", 0), pred("catch", 3), pred("throw", 1)}
	return slices.Contains(p.static, q) || pure.Knows(q) || slices.Contains(own, q) || q.Name == "call" && q.Arity >= 1
}

// predOf is a head's predicate.
func predOf(head api.Term) api.Pred { return pred(head.Name, len(head.Args)) }

// flaw is what is thrown of a goal about clauses ahead of any operation.
func (p *plain) flaw(g api.Term) (api.Reply, bool) {
	head, body, _ := parts(g.Args[0])
	kind, action := "static_procedure", "modify"
	culprit := g.Args[0]
	if g.Name == "clause" {
		head, body = g.Args[0], at("true")
		kind, action = "private_procedure", "access"
	}
	switch {
	case head.Kind == api.Var:
		return throws("instantiation_error"), true
	case head.Kind == api.Num || body.Kind == api.Num:
		return throws("type_error", at("callable"), culprit), true
	case p.isStatic(predOf(head)):
		return throws("permission_error", at(action), at(kind), slash(predOf(head))), true
	}
	return api.Reply{}, false
}

// mayLack tells whether a reply says what only the room on the way says, not plain lists: that a goal that changes clauses has found none.
func (p *plain) mayLack(g api.Term, r api.Reply) bool {
	if great(g) || !aboutClauses(g) || g.Name == "clause" {
		return false
	}
	_, flaw := p.flaw(g)
	full := g.Name != "retract" && sameReply(r, throws("resource_error", at("clauses")))
	return !flaw && (full || sameReply(r, throws("resource_error", at("cells"))))
}

// goalName is a goal's name and number of arguments.
func goalName(g api.Term) string { return g.Name + "/" + strconv.Itoa(len(g.Args)) }

// aboutClauses tells whether a goal adds, takes away, or tells clauses by its name.
func aboutClauses(g api.Term) bool {
	return slices.Contains([]string{"assertz/1", "asserta/1", "retract/1", "clause/2"}, goalName(g))
}

// ownGoals are the names of the kernel's goals that need no clauses.
func ownGoals() []string {
	return []string{"thread_self/1", "thread_create/2", "thread_join/2", "message_queue_create/1", "message_queue_create/2", "message_queue_destroy/1",
		"thread_send_message/2", "thread_get_message/2", "thread_peek_message/2", "mutex_create/1", "mutex_lock/1", "mutex_unlock/1", "mutex_destroy/1", "out/1"}
}

// number is a number, or what is thrown of what is none.
func number(u api.Term) (int64, api.Reply, bool) {
	switch u.Kind {
	case api.Num:
		return u.Int, api.Reply{}, true
	case api.Var:
		return 0, throws("instantiation_error"), false
	}
	return 0, throws("type_error", at("integer"), u), false
}

// waiting is what a thread waits for, if it is to do a goal now; nothing, if it needn't wait.
func (p *plain) waiting(thread int, g api.Term) string {
	if great(g) || !slices.Contains(ownGoals(), goalName(g)) || len(g.Args) == 0 || g.Args[0].Kind != api.Num {
		return ""
	}
	n := g.Args[0].Int
	q, m := p.queues[n], p.mutexes[n]
	id := strconv.FormatInt(n, 10)
	switch {
	case g.Name == "thread_join" && n != int64(thread) && (p.stateOf(n) == 1 || p.stateOf(n) == 2):
		return "thread " + id
	case g.Name == "thread_send_message" && q != nil && len(q.messages) >= q.most:
		return "queue " + id
	case g.Name == "thread_get_message" && q != nil && q.find(g.Args[1]) < 0:
		return "queue " + id
	case g.Name == "mutex_lock" && m != nil && m.times > 0 && m.owner != thread:
		return "mutex " + id
	}
	return ""
}

// find is the place of the first message that fits.
func (q *plainQueue) find(pattern api.Term) int {
	return slices.IndexFunc(q.messages, func(m api.Term) bool { return solvable(pattern, m) })
}

// do does a goal that needs no operation, and needn't wait.
func (p *plain) do(thread int, g api.Term) api.Reply {
	if great(g) {
		return throws("resource_error", at("term"))
	}
	if aboutClauses(g) {
		r, _ := p.flaw(g)
		return r
	}
	if !slices.Contains(ownGoals(), goalName(g)) {
		return throws("existence_error", at("procedure"), slash(predOf(g)))
	}
	switch g.Name {
	case "out":
		p.lines[thread] = append(p.lines[thread], renamed(g.Args[0]))
		return api.Reply{Ok: true}
	case "thread_self":
		return given(g.Name, nu(int64(thread)))
	case "thread_create", "thread_join":
		return p.thread(thread, g)
	case "mutex_create", "mutex_lock", "mutex_unlock", "mutex_destroy":
		return p.mutex(thread, g)
	}
	return p.queue(g)
}

// thread does a goal about threads.
func (p *plain) thread(thread int, g api.Term) api.Reply {
	u := g.Args[0]
	if g.Name == "thread_create" {
		switch u.Kind {
		case api.Var:
			return throws("instantiation_error")
		case api.Num:
			return throws("type_error", at("callable"), u)
		}
		if t := p.spawn(u); t > 0 {
			return given(g.Name, va(1), nu(int64(t)))
		}
		return throws("resource_error", at("threads"))
	}
	t, ball, ok := number(g.Args[0])
	switch {
	case !ok:
		return ball
	case t == int64(thread):
		return throws("permission_error", at("join"), at("thread"), u)
	case p.stateOf(t) != 3:
		return throws("existence_error", at("thread"), u)
	}
	p.state[int(t)] = 0
	return given(g.Name, u, p.status[int(t)])
}

// queue does a goal about queues.
func (p *plain) queue(g api.Term) api.Reply {
	if g.Name == "message_queue_create" {
		return p.makeQueue(g)
	}
	n, ball, ok := number(g.Args[0])
	q := p.queues[n]
	switch {
	case !ok:
		return ball
	case q == nil:
		return throws("existence_error", at("message_queue"), g.Args[0])
	}
	switch g.Name {
	case "message_queue_destroy":
		delete(p.queues, n)
	case "thread_send_message":
		q.messages = append(q.messages, renamed(g.Args[1]))
	default:
		i := q.find(g.Args[1])
		if i < 0 {
			return api.Reply{}
		}
		m := q.messages[i]
		if g.Name == "thread_get_message" {
			q.messages = slices.Delete(slices.Clone(q.messages), i, i+1)
		}
		return given(g.Name, g.Args[0], m)
	}
	return api.Reply{Ok: true}
}

func (p *plain) makeQueue(g api.Term) api.Reply {
	most := 64
	if len(g.Args) == 2 {
		n, ball, ok := number(g.Args[1])
		if !ok {
			return ball
		}
		most = int(min(max(n, 1), 64))
	}
	if len(p.queues) >= 8 {
		return throws("resource_error", at("message_queues"))
	}
	p.made[0]++
	p.queues[p.made[0]] = &plainQueue{most: most}
	return given(g.Name, append([]api.Term{nu(p.made[0])}, g.Args[1:]...)...)
}

// mutex does a goal about mutexes.
func (p *plain) mutex(thread int, g api.Term) api.Reply {
	if g.Name == "mutex_create" {
		if len(p.mutexes) >= 8 {
			return throws("resource_error", at("mutexes"))
		}
		p.made[1]++
		p.mutexes[p.made[1]] = &plainMutex{}
		return given(g.Name, nu(p.made[1]))
	}
	n, ball, ok := number(g.Args[0])
	m := p.mutexes[n]
	switch {
	case !ok:
		return ball
	case m == nil:
		return throws("existence_error", at("mutex"), g.Args[0])
	case g.Name == "mutex_lock":
		m.owner = thread
		m.times++
	case g.Name == "mutex_unlock" && m.owner != thread:
		return throws("permission_error", at("unlock"), at("mutex"), g.Args[0])
	case g.Name == "mutex_unlock":
		if m.times--; m.times == 0 {
			m.owner = 0
		}
	case m.times > 0:
		return throws("permission_error", at("destroy"), at("mutex"), g.Args[0])
	default:
		delete(p.mutexes, n)
	}
	return api.Reply{Ok: true}
}

// end ends a thread.
func (p *plain) end(thread int, status api.Term) {
	p.state[thread], p.status[thread] = 3, renamed(status)
	for _, m := range p.mutexes {
		if m.owner == thread {
			*m = plainMutex{}
		}
	}
}

// entry does what an entry tells of the DB, or of a thread's end.
func (p *plain) entry(thread int, ask api.Term) api.Reply {
	switch ask.Name {
	case "$end":
		p.end(thread, ask.Args[0])
		return api.Reply{Ok: true}
	case "$add", "$push":
		head, body, _ := parts(ask.Args[0])
		f := base.Found{Id: ask.Args[1].Int, Clause: api.Clause{Head: head, Body: body}}
		at := 0
		if ask.Name == "$add" {
			at = len(p.clauses[predOf(head)])
		}
		p.clauses[predOf(head)] = slices.Insert(p.clauses[predOf(head)], at, f)
		return api.Reply{Ok: true}
	}
	slash := ask.Args[0]
	q := pred(slash.Args[0].Name, int(slash.Args[1].Int))
	if ask.Name == "$read" {
		return api.Reply{Ok: len(p.clauses[q]) > 0 && same(ask.Args[1], p.listed(q))}
	}
	i := slices.IndexFunc(p.clauses[q], func(f base.Found) bool { return f.Id == ask.Args[1].Int })
	if i < 0 {
		return api.Reply{}
	}
	p.clauses[q] = slices.Delete(slices.Clone(p.clauses[q]), i, i+1)
	return api.Reply{Ok: true}
}

// listed is what a predicate has, as a list of numbers, or of lists of 50.
func (p *plain) listed(q api.Pred) api.Term {
	var all, part []api.Term
	for _, f := range p.clauses[q] {
		if len(part) == 50 {
			all = append(all, consed(part))
			part = nil
		}
		part = append(part, nu(f.Id))
	}
	if all == nil {
		return consed(part)
	}
	return consed(append(all, consed(part)))
}

func consed(ts []api.Term) api.Term {
	l := at("[]")
	for _, u := range slices.Backward(ts) {
		l = co(".", u, l)
	}
	return l
}
