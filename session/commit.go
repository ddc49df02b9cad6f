package session

import (
	"dovecote/api"
	"dovecote/place"
	"dovecote/stamp"
)

// commit lets all parts lay what is theirs, and the primary's home decide then.
func (s *Session) commit() api.Result {
	t := s.txn
	if len(t.writes) == 0 {
		told := s.toldAt(api.GotCommitted, t.start)
		s.txn = nil
		return told
	}
	s.stop = s.giveUp
	parts := s.parts()
	left := len(parts)
	var least api.Ts
	own := place.Split(t.writes, s.shards)
	for _, n := range parts {
		q := api.Request{Kind: api.AskLay, By: t.by, Start: t.start, Key: t.primary(), Writes: own[n]}
		s.try(n, q, func(r api.Reply) api.Result {
			switch r.Kind {
			case api.SaidLaid:
				least = stamp.Max(least, r.At)
				left--
				if left > 0 {
					return api.Result{}
				}
				return s.decide(least)
			case api.SaidConflict:
				return s.stop(api.ErrBusy)
			case api.SaidCommitted, api.SaidUndone:
				return s.stop(api.ErrNone)
			}
			return s.stop(errorOf(r))
		})
	}
	return api.Result{}
}

// decide asks the primary's home to commit by at; from then on nobody but that shard knows what comes of the transaction.
func (s *Session) decide(at api.Ts) api.Result {
	s.stop = s.leave
	t := s.txn
	q := api.Request{Kind: api.AskDecide, By: t.by, Start: t.start, At: at, Key: t.primary(), Parts: place.Parts(t.writes, s.shards)}
	s.ask(s.home(), q, func(r api.Reply) api.Result {
		switch r.Kind {
		case api.SaidCommitted:
			return s.succeed(r.At)
		case api.SaidLow:
			return s.decide(stamp.Max(at, r.At))
		case api.SaidUndone:
			return s.giveUp(api.ErrNone)
		}
		return s.revoke(errorOf(r))
	})
	return api.Result{}
}

// revoke asks the primary's home to undo what it may have decided in spite of err, till it tells which it is.
func (s *Session) revoke(err api.Errno) api.Result {
	s.ask(s.home(), s.undo(), func(r api.Reply) api.Result {
		switch r.Kind {
		case api.SaidCommitted:
			return s.succeed(r.At)
		case api.SaidUndone:
			return s.giveUp(err)
		}
		return s.revoke(err)
	})
	return api.Result{}
}

// succeed ends a transaction that has committed by at, and lets the other parts know.
func (s *Session) succeed(at api.Ts) api.Result {
	s.settle()
	s.now = stamp.Max(s.now, at)
	told := s.toldAt(api.GotCommitted, at)
	by, home, left := s.txn.by, s.home(), len(s.parts())-1
	finish := func() {
		s.chore(home, api.Request{Kind: api.AskDone, By: by}, nothing)
	}
	for _, n := range s.parts() {
		if n == home {
			continue
		}
		s.chore(n, api.Request{Kind: api.AskApply, By: by, At: at}, func(r api.Reply) api.Result {
			left--
			if left == 0 && r.Kind == api.SaidFine {
				finish()
			}
			return api.Result{}
		})
	}
	if left == 0 {
		finish()
	}
	s.txn = nil
	return told
}

// giveUp ends a transaction that hasn't committed, and lets all parts know.
func (s *Session) giveUp(err api.Errno) api.Result {
	s.settle()
	told := s.told(api.GotAborted, err)
	for _, n := range s.parts() {
		s.chore(n, s.undo(), nothing)
	}
	s.txn = nil
	return told
}

// leave ends a transaction of which it isn't known what comes of it.
func (s *Session) leave(err api.Errno) api.Result {
	s.settle()
	told := s.told(api.GotUnknown, err)
	s.txn = nil
	return told
}

// undo answers the request by which the transaction is undone.
func (s *Session) undo() api.Request {
	return api.Request{Kind: api.AskUndo, By: s.txn.by, Start: s.txn.start}
}

// parts answers the shards on which the transaction writes, in the order of their numbers.
func (s *Session) parts() []int {
	var l []int
	for n, own := range place.Split(s.txn.writes, s.shards) {
		if len(own) > 0 {
			l = append(l, n)
		}
	}
	return l
}

// home answers the shard that decides.
func (s *Session) home() int {
	n, _ := place.Shard(s.txn.primary(), s.shards)
	return n
}

// primary answers the key whose shard decides.
func (t *txn) primary() string {
	return t.writes[0].Key
}
