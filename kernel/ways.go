package kernel

import "pythia/api"

// way is how the goals of a predicate are done: their job's first step, and each one behind having been blocked.
type way struct {
	pred api.Pred
	step func(*Job)
}

func ways() []way {
	return []way{
		{api.Pred{Name: "assertz", Arity: 1}, (*Job).addBehind},
		{api.Pred{Name: "asserta", Arity: 1}, (*Job).addAhead},
		{api.Pred{Name: "retract", Arity: 1}, (*Job).retract},
		{api.Pred{Name: "clause", Arity: 2}, (*Job).lookInto},
		{api.Pred{Name: "thread_self", Arity: 1}, (*Job).tellSelf},
		{api.Pred{Name: "thread_create", Arity: 2}, (*Job).createThread},
		{api.Pred{Name: "thread_join", Arity: 2}, (*Job).join},
		{api.Pred{Name: "message_queue_create", Arity: 1}, (*Job).createQueue},
		{api.Pred{Name: "message_queue_create", Arity: 2}, (*Job).createQueueOf},
		{api.Pred{Name: "message_queue_destroy", Arity: 1}, (*Job).destroyQueue},
		{api.Pred{Name: "thread_send_message", Arity: 2}, (*Job).send},
		{api.Pred{Name: "thread_get_message", Arity: 2}, (*Job).get},
		{api.Pred{Name: "thread_peek_message", Arity: 2}, (*Job).peek},
		{api.Pred{Name: "mutex_create", Arity: 1}, (*Job).createMutex},
		{api.Pred{Name: "mutex_lock", Arity: 1}, (*Job).lock},
		{api.Pred{Name: "mutex_unlock", Arity: 1}, (*Job).unlock},
		{api.Pred{Name: "mutex_destroy", Arity: 1}, (*Job).destroyMutex},
		{api.Pred{Name: "out", Arity: 1}, (*Job).out},
	}
}

// wayOf is how the goals of a predicate are done.
func wayOf(p api.Pred) func(*Job) {
	for _, w := range ways() {
		if w.pred == p {
			return w.step
		}
	}
	return (*Job).tryClauses
}

// out tells a line.
func (j *Job) out() {
	of := j.kernel.threads[j.thread]
	of.lines = append(of.lines, j.goal.Args[0]) // renamed already, with the goal
	j.settle(api.Reply{Ok: true})
}
