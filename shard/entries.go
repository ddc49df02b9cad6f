package shard

import (
	"dovecote/api"
	"dovecote/entry"
)

// note logs e, and does what it tells; nothing, if it can't be logged.
func (s *Shard) note(e api.Entry) api.Errno {
	record, err := entry.Write(e)
	if err != api.OK {
		return err
	}
	if err := s.log.Append(record); err != api.OK {
		return err
	}
	s.follow(e)
	return api.OK
}

// follow does what e, which is logged, tells. Requests and Open go through it alike, so that a fall makes no other shard.
func (s *Shard) follow(e api.Entry) {
	switch e.Kind {
	case api.EntryBound:
		s.bound = e.At
	case api.EntryLay:
		s.intents.Lay(e.By, e.Start, e.Min, e.Primary, e.Writes)
	case api.EntryCommit:
		s.fix(e.By, e.At)
		s.verdicts.Set(api.Verdict{By: e.By, Start: e.Start, At: e.At, Parts: e.Parts})
	case api.EntryApply:
		s.fix(e.By, e.At)
	case api.EntryUndo:
		s.intents.Cut(e.By)
		s.verdicts.Set(api.Verdict{By: e.By, Start: e.Start})
	case api.EntrySafe:
		s.safe = e.At
		s.store.Prune(e.At)
		s.verdicts.Retire(e.At, s.holders())
	case api.EntryDone:
		s.verdicts.Done(e.By)
	case api.EntryHave:
		s.put(e.By, e.At, e.Writes[0])
	case api.EntryBook:
		s.verdicts.Set(api.Verdict{By: e.By, Start: e.Start, At: e.At, Parts: e.Parts, Done: e.Done})
	}
}

// fix lets the intents of by be versions since at.
func (s *Shard) fix(by api.Txn, at api.Ts) {
	for _, i := range s.intents.Cut(by) {
		s.put(by, at, i.Write)
	}
}

// put lets w be a version since at.
func (s *Shard) put(by api.Txn, at api.Ts, w api.Write) {
	s.store.Put(w.Key, api.Version{At: at, By: by, Val: w.Val, Dead: w.Dead})
}

// holders answers the transactions that have intents.
func (s *Shard) holders() []api.Txn {
	var l []api.Txn
	for _, i := range s.intents.All() {
		l = append(l, i.By)
	}
	return l
}

// entries answers those that make the same shard, and no more of them than that needs.
func (s *Shard) entries() []api.Entry {
	l := []api.Entry{{Kind: api.EntryBound, At: s.bound}}
	// Ahead of the versions: behind them it would prune what has come since.
	if s.safe != (api.Ts{}) {
		l = append(l, api.Entry{Kind: api.EntrySafe, At: s.safe})
	}
	for _, item := range s.store.Items() {
		for _, v := range item.Chain {
			w := api.Write{Key: item.Key, Val: v.Val, Dead: v.Dead}
			l = append(l, api.Entry{Kind: api.EntryHave, By: v.By, At: v.At, Writes: []api.Write{w}})
		}
	}
	for _, v := range s.verdicts.All() {
		l = append(l, api.Entry{Kind: api.EntryBook, By: v.By, Start: v.Start, At: v.At, Parts: v.Parts, Done: v.Done})
	}
	for _, i := range s.intents.All() {
		own := s.intents.By(i.By)
		// One for all intents of a transaction, in the place of the first of them.
		if own[0] == i {
			l = append(l, layOf(own))
		}
	}
	return l
}

// layOf answers the entry by which a transaction's intents are laid.
func layOf(own []api.Intent) api.Entry {
	e := api.Entry{Kind: api.EntryLay, By: own[0].By, Start: own[0].Start, Min: own[0].Min, Primary: own[0].Primary}
	for _, i := range own {
		e.Writes = append(e.Writes, i.Write)
	}
	return e
}
