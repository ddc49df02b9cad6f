package session

import (
	"slices"

	"dovecote/api"
	"dovecote/place"
)

// ask lets q be asked of shard n for the op that is under way, and do be done with its answer.
func (s *Session) ask(n int, q api.Request, do step) {
	s.post(n, q, ask{then: do})
}

// chore lets q be asked of shard n, and do be done with an answer that is no error; no op waits for it.
func (s *Session) chore(n int, q api.Request, do step) {
	s.post(n, q, ask{isChore: true, then: do})
}

// post gives a its number and its letter, which is to be sent.
func (s *Session) post(n int, q api.Request, a ask) {
	s.asked++
	a.letter = api.Letter{Client: s.client, Shard: uint32(n), Seq: s.asked, Ask: q}
	s.asks = append(s.asks, a)
	s.out = append(s.out, a.letter)
}

// nothing is done with an answer by which a chore is over.
func nothing(api.Reply) api.Result {
	return api.Result{}
}

// try asks q of shard n, as often as another transaction is in its way; do is done with the answer that tells of none.
func (s *Session) try(n int, q api.Request, do step) {
	s.ask(n, q, func(r api.Reply) api.Result {
		if r.Kind == api.SaidLocked {
			return s.push(n, q, r, do)
		}
		return do(r)
	})
}

// push asks what has come of the transaction that locked q at shard n, and gets it out of the way.
func (s *Session) push(n int, q api.Request, locked api.Reply, do step) api.Result {
	home, err := place.Shard(locked.Primary, s.shards)
	if err != api.OK {
		return s.stop(err)
	}
	// Not all of the reply: its list isn't the session's to keep.
	who, start := locked.Who, locked.Start
	p := api.Request{Kind: api.AskPush, By: who, Start: start, Key: locked.Primary}
	// A reader is content, if it commits above what is read; who writes must see it end.
	if q.Kind != api.AskLay {
		p.At = q.Start
	}
	s.ask(home, p, func(r api.Reply) api.Result {
		switch r.Kind {
		case api.SaidCommitted:
			return s.unlock(n, q, api.Request{Kind: api.AskApply, By: who, At: r.At}, do)
		case api.SaidUndone:
			return s.unlock(n, q, api.Request{Kind: api.AskUndo, By: who, Start: start}, do)
		case api.SaidPushed:
			return s.pass(n, q, who, do)
		}
		return s.stop(errorOf(r))
	})
	return api.Result{}
}

// unlock lets shard n learn by end what has come of who locked q there, and tries q again.
func (s *Session) unlock(n int, q, end api.Request, do step) api.Result {
	s.ask(n, end, func(r api.Reply) api.Result {
		if r.Kind == api.SaidError {
			return s.stop(errorOf(r))
		}
		s.try(n, q, do)
		return api.Result{}
	})
	return api.Result{}
}

// pass tries q again, past who commits above what q reads, or not at all; a write can't pass.
func (s *Session) pass(n int, q api.Request, who api.Txn, do step) api.Result {
	if q.Kind == api.AskLay {
		return s.stop(api.ErrBusy)
	}
	if len(q.Skips) >= api.MaxSkips {
		return s.stop(api.ErrMore)
	}
	// In new memory: letters that are to be sent still have the list as it was.
	q.Skips = slices.Concat(q.Skips, []api.Txn{who})
	s.try(n, q, do)
	return api.Result{}
}

// settle lets no op be under way, and nothing be asked for one.
func (s *Session) settle() {
	s.stop = nil
	s.asks = slices.DeleteFunc(s.asks, func(a ask) bool { return !a.isChore })
}

// fail ends an op that only reads; the transaction goes on.
func (s *Session) fail(err api.Errno) api.Result {
	s.settle()
	return s.told(api.GotError, err)
}

// errorOf answers the error that r is, where it isn't what was asked for.
func errorOf(r api.Reply) api.Errno {
	if r.Kind != api.SaidError || r.Err == api.OK {
		return api.ErrForm
	}
	return r.Err
}
