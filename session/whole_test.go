package session_test

import (
	"fmt"
	"math/rand"
	"slices"
	"testing"

	"dovecote/api"
	"dovecote/drum"
	"dovecote/letter"
	"dovecote/session"
	"dovecote/shard"
)

// fate is what became of a transaction, as its client was told it.
type fate struct {
	kind   int
	at     api.Ts
	writes map[string]api.Write
}

// glance is a read that was answered: at which stamp, what of which keys.
type glance struct {
	by       api.Txn
	start    api.Ts
	from, to string
	limit    int
	seen     []api.Pair
	own      map[string]api.Write
}

// town has sessions and shards, with letters between them as bytes, and keeps what was told.
type town struct {
	*testing.T
	*rand.Rand
	sessions []*session.Session
	shards   []*shard.Shard
	post     []string
	phys     uint64
	fates    map[api.Txn]*fate
	glances  []glance
	ops      []api.Op // of each client: what is under way
	refusals []api.Result
}

func newTown(t *testing.T, seed int64, clients, shards int) *town {
	w := &town{T: t, Rand: rand.New(rand.NewSource(seed)), phys: 10, fates: map[api.Txn]*fate{}, ops: make([]api.Op, clients)}
	for n := range clients {
		w.sessions = append(w.sessions, opened(t, n, shards))
	}
	for range shards {
		d, err := drum.New(1 << 20)
		if err != api.OK {
			t.Fatal(err)
		}
		s, err := shard.Open(d)
		if err != api.OK {
			t.Fatal(err)
		}
		w.shards = append(w.shards, s)
	}
	return w
}

// collect takes all letters that are to be sent, none of which may be refused.
func (w *town) collect() {
	for _, s := range w.sessions {
		for _, l := range s.Out() {
			text, err := letter.Write(l)
			if err != api.OK {
				w.Fatalf("a letter is refused:%s", tellAll([]api.Letter{l}))
			}
			w.post = append(w.post, text)
		}
	}
}

// deliver lets the letter at i arrive.
func (w *town) deliver(i int) {
	l, err := letter.Read(w.post[i])
	if err != api.OK {
		w.Fatal(err)
	}
	w.post = slices.Delete(w.post, i, i+1)
	if l.Answer {
		w.result(int(l.Client), w.sessions[l.Client].Hear(l))
		return
	}
	back := api.Letter{Client: l.Client, Shard: l.Shard, Seq: l.Seq, Answer: true, Reply: w.shards[l.Shard].Handle(w.phys, l.Ask)}
	text, err := letter.Write(back)
	if err != api.OK {
		w.Fatal(err)
	}
	w.post = append(w.post, text)
}

// do lets a client do an op.
func (w *town) do(n int, o api.Op) {
	w.ops[n] = o
	w.result(n, w.sessions[n].Do(w.phys, o))
}

// result keeps what a client was told.
func (w *town) result(n int, r api.Result) {
	f := w.fates[r.By]
	o := w.ops[n]
	switch r.Kind {
	case api.GotNothing:
		return
	case api.GotFine:
		switch o.Kind {
		case api.OpBegin:
			w.fates[r.By] = &fate{writes: map[string]api.Write{}}
		case api.OpPut:
			f.writes[o.Key] = api.Write{Key: o.Key, Val: o.Val}
		case api.OpDelete:
			f.writes[o.Key] = api.Write{Key: o.Key, Dead: true}
		case api.OpAbort:
			f.kind = api.GotAborted
		}
	case api.GotValue:
		g := glance{by: r.By, start: r.Start, from: o.Key, to: o.Key + "\x00", limit: 1, own: f.writes}
		if r.Found {
			g.seen = []api.Pair{{Key: o.Key, Val: r.Val}}
		}
		w.look(g)
	case api.GotPairs:
		w.look(glance{by: r.By, start: r.Start, from: o.Key, to: o.To, limit: min(max(o.Limit, 0), mostPairs), seen: r.Pairs, own: f.writes})
	case api.GotCommitted:
		f.kind, f.at = r.Kind, r.At
	case api.GotAborted, api.GotUnknown:
		f.kind = r.Kind
		w.refusals = append(w.refusals, r)
	case api.GotError:
		w.refusals = append(w.refusals, r)
	}
}

// look keeps a glance, with the writes that its transaction had by then.
func (w *town) look(g glance) {
	own := map[string]api.Write{}
	for k, v := range g.own {
		own[k] = v
	}
	g.own = own
	w.glances = append(w.glances, g)
}

var townKeys = []string{"a", "b", "c", "d", "e", "f"}

// randomOp answers one that can be done by a client that waits for nothing.
func (w *town) randomOp(n int) api.Op {
	if _, runs := w.sessions[n].Start(); !runs {
		return op(api.OpBegin)
	}
	k := townKeys[w.Intn(len(townKeys))]
	switch w.Intn(12) {
	case 0, 1, 2:
		return get(k)
	case 3, 4:
		return scan([]string{"", k}[w.Intn(2)], []string{"", townKeys[w.Intn(len(townKeys))]}[w.Intn(2)], w.Intn(7))
	case 5, 6, 7:
		return put(k, fmt.Sprint(n, w.phys, w.Intn(1000)))
	case 8:
		return del(k)
	case 9:
		return op(api.OpAbort)
	}
	return commit
}

// settle lets all letters arrive, and what isn't answered be sent once more, till all is quiet.
func (w *town) settle() {
	for range 1000 {
		w.collect()
		for len(w.post) > 0 {
			w.deliver(0)
			w.collect()
		}
		isQuiet := true
		for _, s := range w.sessions {
			isQuiet = isQuiet && s.Quiet()
			s.Again()
		}
		if isQuiet {
			return
		}
		w.phys++
	}
	w.Fatal("it doesn't settle")
}

// readAll lets a client read all keys, later than any lock lives, so that nothing is left undecided.
func (w *town) readAll() {
	w.phys += 500
	for n, s := range w.sessions {
		if _, runs := s.Start(); runs {
			w.do(n, abort)
		}
	}
	w.do(0, op(api.OpBegin))
	w.do(0, scan("", "", mostPairs))
	w.settle()
	w.do(0, commit)
	w.settle()
	for i, s := range w.shards {
		if l := s.Intents(); len(l) != 0 {
			w.Fatalf("shard %d has intents: %+v", i, l)
		}
	}
}

// versions answers all that were ever written, by keys; nothing is pruned here.
func (w *town) versions() map[string][]api.Version {
	m := map[string][]api.Version{}
	for n, s := range w.shards {
		for _, item := range s.Items() {
			if homeOf(item.Key, len(w.shards)) != n {
				w.Fatalf("%q isn't at home on %d", item.Key, n)
			}
			m[item.Key] = item.Chain
		}
	}
	return m
}

// check holds all that was told against the versions.
func (w *town) check() {
	all := w.versions()
	for by, f := range w.fates {
		stamps := map[api.Ts]int{}
		for k, write := range f.writes {
			i := slices.IndexFunc(all[k], func(v api.Version) bool { return v.By == by })
			if i < 0 {
				stamps[none]++
				continue
			}
			v := all[k][i]
			if v.Val != write.Val || v.Dead != write.Dead {
				w.Fatalf("%v wrote %+v, there is %+v", by, write, v)
			}
			stamps[v.At]++
		}
		if len(stamps) > 1 {
			w.Fatalf("%v is neither whole nor nothing: %v", by, stamps)
		}
		switch {
		case len(f.writes) == 0:
		case f.kind == api.GotCommitted && stamps[f.at] == 0, f.kind == api.GotAborted && stamps[none] == 0:
			w.Fatalf("%v was told as %d by %v, but: %v", by, f.kind, f.at, stamps)
		}
	}
	for _, g := range w.glances {
		var want []api.Pair
		for _, k := range townKeys {
			if k < g.from || g.to != "" && k >= g.to {
				continue
			}
			if val, ok := g.sees(k, all[k]); ok && len(want) < g.limit {
				want = append(want, api.Pair{Key: k, Val: val})
			}
		}
		if !slices.Equal(g.seen, want) {
			w.Fatalf("%v at %v from %q to %q, limit %d: %v, want %v", g.by, g.start, g.from, g.to, g.limit, g.seen, want)
		}
	}
}

// sees answers what a glance must see of a key: what its transaction wrote, or the newest that isn't above its start.
func (g glance) sees(key string, chain []api.Version) (string, bool) {
	if write, ok := g.own[key]; ok {
		return write.Val, !write.Dead
	}
	var best api.Version
	for _, v := range chain {
		if num(v.At) <= num(g.start) && num(v.At) >= num(best.At) {
			best = v
		}
	}
	return best.Val, best.At != none && !best.Dead
}

// busy tells whether a client waits for its op.
func (w *town) busy(n int) bool {
	return w.sessions[n].Do(0, api.Op{Kind: 99}).Err == api.ErrBusy
}

// TestTown: sessions over shards, letters in any order, lost and doubled: what was read and told is true.
func TestTown(t *testing.T) {
	kinds := map[int]int{}
	for seed := range int64(600) {
		w := newTown(t, seed, 1+int(seed%maxClients), 1+int(seed/2%maxShards))
		isCalm := seed%3 == 0
		for range 400 {
			n := w.Intn(len(w.sessions))
			if !w.busy(n) && w.Intn(2) == 0 {
				w.do(n, w.randomOp(n))
			}
			w.collect()
			if len(w.post) > 0 {
				w.deliver(w.Intn(len(w.post)))
			}
			if !isCalm {
				w.befall(n)
			}
			if w.Intn(20) == 0 {
				w.phys += uint64(w.Intn(30))
			}
		}
		w.settle()
		for _, r := range w.refusals {
			kinds[r.Kind]++
			// Without losses there is one reason, and it needs another client.
			if isCalm && (r.Kind != api.GotAborted || r.Err != api.ErrBusy && r.Err != api.ErrNone || len(w.sessions) == 1) {
				t.Fatalf("seed %d: refused: %s", seed, tell(r))
			}
		}
		w.readAll()
		w.check()
		for _, f := range w.fates {
			kinds[f.kind]++
		}
	}
	t.Log(kinds)
	for _, kind := range []int{api.GotCommitted, api.GotAborted, api.GotUnknown, api.GotError} {
		if kinds[kind] < 20 {
			t.Errorf("result %d came %d times", kind, kinds[kind])
		}
	}
}

// befall lets letters be lost and doubled, and a client wait no longer.
func (w *town) befall(n int) {
	switch w.Intn(12) {
	case 0:
		if len(w.post) > 0 {
			i := w.Intn(len(w.post))
			w.post = slices.Delete(w.post, i, i+1)
		}
	case 1, 2:
		if len(w.post) > 0 {
			w.post = append(w.post, w.post[w.Intn(len(w.post))])
		}
	case 3:
		w.sessions[n].Again()
	case 4:
		if w.busy(n) && w.Intn(3) == 0 {
			w.result(n, w.sessions[n].Give())
		}
	}
}

// TestOneClient: alone it is refused nothing, and reads what it wrote, be it committed or not.
func TestOneClient(t *testing.T) {
	for shards := 1; shards <= maxShards; shards++ {
		w := newTown(t, int64(shards), 1, shards)
		for range 300 {
			w.do(0, w.randomOp(0))
			for w.busy(0) {
				w.collect()
				w.deliver(w.Intn(len(w.post)))
			}
			w.phys += uint64(w.Intn(2))
		}
		w.settle()
		if len(w.refusals) != 0 {
			t.Fatalf("refused: %s", tell(w.refusals[0]))
		}
		w.readAll()
		w.check()
	}
}
