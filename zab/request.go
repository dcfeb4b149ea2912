package zab

import (
	"iter"
	"maps"
	"slices"

	"harpsichord/api"
	"harpsichord/watcher"
	"harpsichord/zstate"
)

// history is what a server asks its log: how it stands with the entries for which requests wait.
type history interface {
	Views() (promised, normal int)
	Leads() bool
	Dead() bool
	Commit() int
	Log() []api.Entry
}

// asker is who is to be told an answer, and to which of its requests.
type asker struct{ from, number int }

// wait is a request that waits for an entry, and the view in which that was offered.
type wait struct {
	asker
	view int
}

// log is the node, of which no more than its history is asked.
func (s *Server) log() history {
	return s.node
}

// write lets a request wait for the entry of its transaction, or tells why there is none.
func (s *Server) write(who asker, t zstate.Txn) {
	if e := s.accept(t); e != api.OK {
		s.tell(who, Answer{Code: e})
		return
	}
	view, _ := s.log().Views()
	s.waiting[len(s.log().Log())] = wait{who, view}
}

// accept offers a client's transaction. When a lease was renewed the server's clock says, not the client.
func (s *Server) accept(t zstate.Txn) api.Errno {
	switch {
	case !s.log().Leads():
		return api.ErrZabLeader
	case t.Kind == ends:
		return api.ErrArg
	case t.Kind == opens, t.Kind == renews:
		t.Now = s.now
	}
	return s.offer(t)
}

// read is the answer to a request that reads.
func (s *Server) read(r Request) Answer {
	if s.state.Zxid() < r.Seen {
		return Answer{Code: api.ErrZabBehind}
	}
	var a Answer
	ofKids := r.Kind == readsKids
	if tree := s.state.Tree(); ofKids {
		a.Kids, a.Is = tree.Kids(r.Path)
	} else {
		a.Node, a.Is = tree.Get(r.Path)
	}
	if _, is := s.state.Leases().Get(r.T.Session); r.Watch && is {
		s.watches.Add(watcher.Watch{Session: r.T.Session, Path: r.Path, Kids: ofKids})
	}
	return a
}

// settle does what stands behind each call: it answers who waits for what the log has lost, applies what is committed, and lets nobody wait for who does not lead.
func (s *Server) settle() {
	log := s.log().Log()
	for number, w := range s.rising {
		if number > len(log) || log[number-1].View != w.view {
			s.answer(number, Answer{Code: api.ErrTimeout})
		}
	}
	for ; s.applied < s.log().Commit(); s.applied++ {
		s.apply(log[s.applied])
	}
	if s.log().Leads() && !s.log().Dead() {
		return
	}
	for number := range s.rising {
		s.answer(number, Answer{Code: api.ErrTimeout})
	}
}

// apply does what an entry says, and answers who waits for it.
func (s *Server) apply(x api.Entry) {
	t, e := zstate.Decode([]byte(x.Body))
	reply := zstate.Reply{Code: e}
	var made []api.Event
	if e == api.OK {
		reply, made = s.state.Apply(x.Number, t)
	}
	for e := range s.told(made) {
		s.events = append(s.events, e)
	}
	s.answer(x.Number, Answer{Code: reply.Code, Reply: reply})
}

// told gives what those are told who watch for these events.
func (s *Server) told(made []api.Event) iter.Seq[api.Event] {
	return func(yield func(api.Event) bool) {
		for _, e := range made {
			for _, to := range s.watches.Fire(e) {
				if !yield(to) {
					return
				}
			}
		}
	}
}

// rising gives the requests that wait, by rising entries.
func (s *Server) rising(yield func(int, wait) bool) {
	for _, number := range slices.Sorted(maps.Keys(s.waiting)) {
		if !yield(number, s.waiting[number]) {
			return
		}
	}
}

// answer tells something to who waits for an entry, if somebody does.
func (s *Server) answer(number int, a Answer) {
	if w, is := s.waiting[number]; is {
		delete(s.waiting, number)
		s.tell(w.asker, a)
	}
}

// tell lets an answer be told.
func (s *Server) tell(to asker, a Answer) {
	a.To, a.Number, a.Zxid = to.from, to.number, s.state.Zxid()
	s.answers = append(s.answers, a)
}
