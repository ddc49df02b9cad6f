package session

import (
	"cmp"
	"slices"

	"dovecote/api"
	"dovecote/clock"
	"dovecote/latch"
	"dovecote/place"
)

// mostPairs is how many a scan can answer for sure: of those that a shard tells, each write may take one away.
const mostPairs = api.MaxScan - api.MaxWrites

// begin lets there be a transaction that reads since now.
func (s *Session) begin(phys uint64) api.Result {
	if s.txn != nil {
		return s.refuse(api.ErrBusy)
	}
	start, err := clock.Tick(s.now, phys)
	if err != api.OK {
		return s.refuse(err)
	}
	s.now = start
	s.begun++
	s.txn = &txn{by: api.Txn{Client: s.client, N: s.begun}, start: start}
	return s.toldAt(api.GotFine, start)
}

// write lets w be what the transaction writes to its key.
func (s *Session) write(w api.Write) api.Result {
	if !latch.Right([]api.Write{w}) {
		return s.refuse(api.ErrArg)
	}
	t := s.txn
	i, found := t.find(w.Key)
	if !found && len(t.writes) >= api.MaxWrites {
		return s.refuse(api.ErrMore)
	}
	if found {
		t.writes[i] = w
	} else {
		t.writes = slices.Insert(t.writes, i, w)
	}
	return s.told(api.GotFine, api.OK)
}

// get reads key: of its own writes, or of the key's home.
func (s *Session) get(key string) api.Result {
	home, err := place.Shard(key, s.shards)
	if err != api.OK {
		return s.refuse(err)
	}
	if i, found := s.txn.find(key); found {
		w := s.txn.writes[i]
		return s.toldValue(!w.Dead, w.Val)
	}
	s.stop = s.fail
	s.try(home, api.Request{Kind: api.AskGet, By: s.txn.by, Start: s.txn.start, Key: key}, func(r api.Reply) api.Result {
		if r.Kind != api.SaidValue {
			return s.stop(errorOf(r))
		}
		s.settle()
		return s.toldValue(r.Found, r.Val)
	})
	return api.Result{}
}

// scan reads a range of all shards.
func (s *Session) scan(op api.Op) api.Result {
	if len(op.Key) > api.MaxKey || len(op.To) > api.MaxKey {
		return s.refuse(api.ErrArg)
	}
	s.stop = s.fail
	q := api.Request{Kind: api.AskScan, By: s.txn.by, Start: s.txn.start, Key: op.Key, To: op.To, Limit: api.MaxScan}
	var pairs []api.Pair
	left := s.shards
	for n := range s.shards {
		s.try(n, q, func(r api.Reply) api.Result {
			if r.Kind != api.SaidPairs {
				return s.stop(errorOf(r))
			}
			pairs = append(pairs, r.Pairs...)
			left--
			if left > 0 {
				return api.Result{}
			}
			s.settle()
			told := s.told(api.GotPairs, api.OK)
			told.Pairs = s.txn.sees(op, pairs)
			return told
		})
	}
	return api.Result{}
}

// abort ends the transaction, of which no shard knows anything yet.
func (s *Session) abort() api.Result {
	told := s.told(api.GotFine, api.OK)
	s.txn = nil
	return told
}

// find answers where the write of key is or would be, and whether there is one.
func (t *txn) find(key string) (int, bool) {
	return slices.BinarySearchFunc(t.writes, key, func(w api.Write, key string) int { return cmp.Compare(w.Key, key) })
}

// sees answers what the transaction sees of a range in which shards told pairs.
func (t *txn) sees(op api.Op, pairs []api.Pair) []api.Pair {
	var l []api.Write
	for _, w := range t.writes {
		if w.Key >= op.Key && (op.To == "" || w.Key < op.To) {
			l = append(l, w)
		}
	}
	for _, p := range pairs {
		w := api.Write{Key: p.Key, Val: p.Val}
		if latch.Right([]api.Write{w}) {
			l = append(l, w)
		}
	}
	// The writes stand ahead of the pairs, so of one key the write is the first, and stays.
	slices.SortStableFunc(l, func(a, b api.Write) int { return cmp.Compare(a.Key, b.Key) })
	l = slices.CompactFunc(l, func(a, b api.Write) bool { return a.Key == b.Key })
	l = slices.DeleteFunc(l, func(w api.Write) bool { return w.Dead })
	var seen []api.Pair
	for _, w := range l[:min(len(l), max(op.Limit, 0), mostPairs)] {
		seen = append(seen, api.Pair{Key: w.Key, Val: w.Val})
	}
	return seen
}

// told answers a result of a kind, of the transaction, if there is one.
func (s *Session) told(kind int, err api.Errno) api.Result {
	r := api.Result{Kind: kind, Err: err}
	if s.txn != nil {
		r.By, r.Start = s.txn.by, s.txn.start
	}
	return r
}

// toldAt answers a result that tells a stamp.
func (s *Session) toldAt(kind int, at api.Ts) api.Result {
	r := s.told(kind, api.OK)
	r.At = at
	return r
}

// toldValue answers what a key has.
func (s *Session) toldValue(found bool, val string) api.Result {
	r := s.told(api.GotValue, api.OK)
	r.Found, r.Val = found, val
	return r
}

// refuse answers why an op isn't done; nothing is changed by it.
func (s *Session) refuse(err api.Errno) api.Result {
	return s.told(api.GotError, err)
}
