package shard

import (
	"slices"

	"dovecote/api"
	"dovecote/clock"
	"dovecote/latch"
	"dovecote/stamp"
)

// Handle answers q, when the physical clock reads phys.
func (s *Shard) Handle(phys uint64, q api.Request) api.Reply {
	if s == nil {
		return refused(api.ErrDown)
	}
	r := s.answer(phys, q)
	r.Now = s.now
	return r
}

// answer answers q, but for what the clock shows then.
func (s *Shard) answer(phys uint64, q api.Request) api.Reply {
	if !isRight(q) {
		return refused(api.ErrArg)
	}
	if s.drum.Down() {
		return refused(api.ErrDown)
	}
	switch q.Kind {
	case api.AskGet:
		return s.get(phys, q)
	case api.AskScan:
		return s.scan(phys, q)
	case api.AskLay:
		return s.lay(phys, q)
	case api.AskDecide:
		return s.decide(phys, q)
	case api.AskApply:
		return s.apply(phys, q)
	case api.AskUndo:
		return s.undo(q)
	case api.AskPush:
		return s.push(phys, q)
	case api.AskSafe:
		return s.raiseSafe(q)
	}
	return s.done(q)
}

// isRight tells whether q can be asked at all.
func isRight(q api.Request) bool {
	if q.Kind < api.AskGet || q.Kind > api.AskDone {
		return false
	}
	if !stamp.Right(q.Start) || !stamp.Right(q.At) || len(q.Skips) > api.MaxSkips {
		return false
	}
	switch q.Kind {
	case api.AskGet:
		return isKey(q.Key)
	case api.AskLay:
		return isKey(q.Key) && latch.Right(q.Writes)
	case api.AskDecide, api.AskApply:
		return q.At != api.Ts{}
	}
	return true
}

// isKey tells whether text can be a key.
func isKey(text string) bool {
	return 1 <= len(text) && len(text) <= api.MaxKey
}

// get answers what a snapshot sees of a key.
func (s *Shard) get(phys uint64, q api.Request) api.Reply {
	// No other key stands from this one on and ahead of the least text above it.
	if r, ok := s.hindrance(phys, q, q.Key, q.Key+"\x00"); ok {
		return r
	}
	val, found := s.store.Get(q.Key, q.Start)
	return api.Reply{Kind: api.SaidValue, Found: found, Val: val}
}

// scan answers what a snapshot sees of a range of keys.
func (s *Shard) scan(phys uint64, q api.Request) api.Reply {
	if r, ok := s.hindrance(phys, q, q.Key, q.To); ok {
		return r
	}
	return api.Reply{Kind: api.SaidPairs, Pairs: s.store.Scan(q.Key, q.To, q.Start, q.Limit)}
}

// hindrance answers why a range can't be read, and whether it can't; if it can, the clock has gone on, and nothing comes to it any more up to the snapshot.
func (s *Shard) hindrance(phys uint64, q api.Request, from, to string) (api.Reply, bool) {
	if stamp.Less(q.Start, s.safe) {
		return refused(api.ErrOld), true
	}
	if err := s.hear(phys, q.Start); err != api.OK {
		return refused(err), true
	}
	// In new memory: the room behind Skips isn't the shard's.
	but := slices.Concat([]api.Txn{q.By}, q.Skips)
	if i, ok := s.intents.First(from, to, q.Start, but); ok {
		return locked(i), true
	}
	return api.Reply{}, false
}

// lay lets a transaction have intents.
func (s *Shard) lay(phys uint64, q api.Request) api.Reply {
	if stamp.Less(q.Start, s.safe) {
		return refused(api.ErrOld)
	}
	if r, ok := s.known(q.By); ok {
		return r
	}
	if own, ok := s.own(q.By); ok {
		return said(api.SaidLaid, own.Min)
	}
	for _, w := range q.Writes {
		if r, ok := s.contest(w.Key, q.Start); ok {
			return r
		}
	}
	if err := s.hear(phys, q.Start); err != api.OK {
		return refused(err)
	}
	least, err := clock.Tick(s.now, phys)
	if err != api.OK {
		return refused(err)
	}
	if err := s.advance(least); err != api.OK {
		return refused(err)
	}
	e := api.Entry{Kind: api.EntryLay, By: q.By, Start: q.Start, Min: least, Primary: q.Key, Writes: q.Writes}
	if err := s.note(e); err != api.OK {
		return refused(err)
	}
	return said(api.SaidLaid, least)
}

// contest answers why a transaction that reads since start can't write key, and whether it can't.
func (s *Shard) contest(key string, start api.Ts) (api.Reply, bool) {
	if i, ok := s.intents.Of(key); ok {
		return locked(i), true
	}
	if stamp.Less(start, s.store.Newest(key)) {
		return api.Reply{Kind: api.SaidConflict}, true
	}
	if s.store.Count(key) >= api.MaxChain {
		return refused(api.ErrMore), true
	}
	return api.Reply{}, false
}

// decide commits a transaction whose primary is here.
func (s *Shard) decide(phys uint64, q api.Request) api.Reply {
	if r, ok := s.known(q.By); ok {
		return r
	}
	own, ok := s.own(q.By)
	if !ok {
		return api.Reply{Kind: api.SaidUndone}
	}
	if !s.hasPrimary(own) {
		return refused(api.ErrArg)
	}
	if stamp.Less(q.At, own.Min) {
		return said(api.SaidLow, own.Min)
	}
	if err := s.hear(phys, q.At); err != api.OK {
		return refused(err)
	}
	e := api.Entry{Kind: api.EntryCommit, By: q.By, Start: own.Start, At: q.At, Parts: q.Parts}
	if err := s.note(e); err != api.OK {
		return refused(err)
	}
	return said(api.SaidCommitted, q.At)
}

// apply learns that a transaction has committed, by what its primary's shard decided.
func (s *Shard) apply(phys uint64, q api.Request) api.Reply {
	if v, ok := s.verdicts.Of(q.By); ok && !isCommitted(v) {
		return api.Reply{Kind: api.SaidFine}
	}
	own, ok := s.own(q.By)
	if !ok {
		return api.Reply{Kind: api.SaidFine}
	}
	if s.hasPrimary(own) || stamp.Less(q.At, own.Min) {
		return refused(api.ErrArg)
	}
	if err := s.hear(phys, q.At); err != api.OK {
		return refused(err)
	}
	if err := s.note(api.Entry{Kind: api.EntryApply, By: q.By, At: q.At}); err != api.OK {
		return refused(err)
	}
	return api.Reply{Kind: api.SaidFine}
}

// undo undoes a transaction of which nothing is known.
func (s *Shard) undo(q api.Request) api.Reply {
	if r, ok := s.known(q.By); ok {
		return r
	}
	return s.giveUp(q.By, q.Start)
}

// push answers what has come of a transaction whose primary is here; if nothing has yet, it is undone, if it is late, or commits above At.
func (s *Shard) push(phys uint64, q api.Request) api.Reply {
	if r, ok := s.known(q.By); ok {
		return r
	}
	own, ok := s.own(q.By)
	if !ok {
		return s.giveUp(q.By, q.Start)
	}
	if !s.hasPrimary(own) {
		return refused(api.ErrArg)
	}
	if clock.Late(own.Start, api.Ts{P: phys}) {
		return s.giveUp(q.By, own.Start)
	}
	if q.At == (api.Ts{}) {
		return said(api.SaidPushed, own.Min)
	}
	least, err := stamp.Next(q.At)
	if err != api.OK {
		return refused(err)
	}
	if err := s.hear(phys, q.At); err != api.OK {
		return refused(err)
	}
	// Not logged: behind a fall it is above the bound, which is no lower than what was heard.
	s.intents.Raise(q.By, least)
	return said(api.SaidPushed, stamp.Max(own.Min, least))
}

// raiseSafe learns that nobody reads below At any more.
func (s *Shard) raiseSafe(q api.Request) api.Reply {
	if !stamp.Less(s.safe, q.At) {
		return said(api.SaidFine, s.safe)
	}
	if err := s.note(api.Entry{Kind: api.EntrySafe, At: q.At}); err != api.OK {
		return refused(err)
	}
	return said(api.SaidFine, q.At)
}

// done learns that all shards know of a transaction's commit.
func (s *Shard) done(q api.Request) api.Reply {
	v, ok := s.verdicts.Of(q.By)
	if !ok || !isCommitted(v) || v.Done {
		return api.Reply{Kind: api.SaidFine}
	}
	if err := s.note(api.Entry{Kind: api.EntryDone, By: q.By}); err != api.OK {
		return refused(err)
	}
	return api.Reply{Kind: api.SaidFine}
}

// giveUp undoes a transaction that reads since start.
func (s *Shard) giveUp(by api.Txn, start api.Ts) api.Reply {
	_, has := s.own(by)
	// What began below the safe time can't be laid any more: there is nothing to remember.
	if has || !stamp.Less(start, s.safe) {
		if err := s.note(api.Entry{Kind: api.EntryUndo, By: by, Start: start}); err != api.OK {
			return refused(err)
		}
	}
	return api.Reply{Kind: api.SaidUndone}
}

// advance lets the clock show c, and the bound be logged ahead of it.
func (s *Shard) advance(c api.Ts) api.Errno {
	if stamp.Less(s.bound, c) {
		if err := s.note(api.Entry{Kind: api.EntryBound, At: clock.Bound(c)}); err != api.OK {
			return err
		}
	}
	s.now = c
	return api.OK
}

// hear lets the clock show no less than t.
func (s *Shard) hear(phys uint64, t api.Ts) api.Errno {
	c, err := clock.Merge(s.now, phys, t)
	if err != api.OK {
		return err
	}
	return s.advance(c)
}

// known answers what is known of by, and whether something is.
func (s *Shard) known(by api.Txn) (api.Reply, bool) {
	if v, ok := s.verdicts.Of(by); ok {
		if isCommitted(v) {
			return said(api.SaidCommitted, v.At), true
		}
		return api.Reply{Kind: api.SaidUndone}, true
	}
	// Shards that were told of a commit have no verdict of it, but what it wrote.
	for _, item := range s.store.Items() {
		for _, v := range item.Chain {
			if v.By == by {
				return said(api.SaidCommitted, v.At), true
			}
		}
	}
	return api.Reply{}, false
}

// own answers the first intent of by, which tells what all of them have in common, and whether there is one.
func (s *Shard) own(by api.Txn) (api.Intent, bool) {
	l := s.intents.By(by)
	if len(l) == 0 {
		return api.Intent{}, false
	}
	return l[0], true
}

// hasPrimary tells whether the primary of an intent's transaction is here.
func (s *Shard) hasPrimary(own api.Intent) bool {
	i, ok := s.intents.Of(own.Primary)
	return ok && i.By == own.By
}

// isCommitted tells whether v's transaction has committed; else it is undone.
func isCommitted(v api.Verdict) bool {
	return v.At != api.Ts{}
}

// refused answers an error.
func refused(err api.Errno) api.Reply {
	return api.Reply{Kind: api.SaidError, Err: err}
}

// said answers a reply that tells a stamp.
func said(kind int, at api.Ts) api.Reply {
	return api.Reply{Kind: kind, At: at}
}

// locked answers that an intent stands in the way.
func locked(i api.Intent) api.Reply {
	return api.Reply{Kind: api.SaidLocked, Who: i.By, Start: i.Start, Primary: i.Primary}
}
