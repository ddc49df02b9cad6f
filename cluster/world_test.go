package cluster_test

import (
	"fmt"
	"maps"
	"math/rand"
	"slices"
	"testing"

	"dovecote/api"
	"dovecote/cluster"
)

// fate is what became of a transaction, as its client was told it.
type fate struct {
	kind   int // of the result that ended it; GotNothing: it goes on
	start  api.Ts
	at     api.Ts
	err    api.Errno
	writes map[string]api.Write
}

// glance is a read that was answered: what was seen of a range of keys, at which stamp, behind which own writes.
type glance struct {
	by       api.Txn
	start    api.Ts
	from, to string
	limit    int
	seen     []api.Pair
	own      map[string]api.Write
}

// world is a cluster of which is kept what was told, and which versions there have ever been.
type world struct {
	*testing.T
	*rand.Rand
	*cluster.Cluster
	api.Config
	moves    []api.Move
	ops      []api.Op // of each client: the last one
	isBusy   []bool   // of each client: does it wait for that?
	latest   uint64   // the greatest reading of any clock
	fates    map[api.Txn]*fate
	glances  []glance
	refusals []api.Result
	versions map[string]map[api.Ts]api.Version
	verdicts map[api.Txn]api.Ts // the stamp by which any shard ever said it had committed; of undone ones none
}

func newWorld(t *testing.T, seed int64, cfg api.Config) *world {
	c, err := cluster.New(cfg)
	if err != api.OK {
		t.Fatal(cfg, err)
	}
	return &world{
		T: t, Rand: rand.New(rand.NewSource(seed)), Cluster: c, Config: cfg,
		ops: make([]api.Op, cfg.Clients), isBusy: make([]bool, cfg.Clients),
		fates: map[api.Txn]*fate{}, versions: map[string]map[api.Ts]api.Version{}, verdicts: map[api.Txn]api.Ts{},
	}
}

// move lets m happen, and keeps what is told by it.
func (w *world) move(m api.Move) api.Shown {
	w.Helper()
	w.moves = append(w.moves, m)
	if m.Kind == api.MoveDo && !w.isBusy[m.Client] {
		w.ops[m.Client] = m.Op
	}
	if m.Kind == api.MoveClock || m.Kind == api.MoveWatch {
		w.latest = max(w.latest, m.Phys)
	}
	x := w.Move(m)
	if x.Err != api.OK && m.Kind != api.MoveRenew {
		w.Fatalf("move %+v: %+v", m, x)
	}
	if m.Kind == api.MoveDo {
		w.isBusy[m.Client] = true
	}
	if x.Result.Kind != api.GotNothing {
		w.isBusy[x.Client] = false
		w.result(w.ops[x.Client], x.Result)
	}
	// Only a request or an opening can bring a version.
	if m.Kind == api.MoveTake || m.Kind == api.MoveRise {
		w.gather()
	}
	return x
}

// result keeps what came of an op.
func (w *world) result(o api.Op, r api.Result) {
	if r.Kind == api.GotFine && o.Kind == api.OpBegin {
		if w.fates[r.By] != nil || r.Start != r.At {
			w.Fatalf("begun anew: %+v", r)
		}
		w.fates[r.By] = &fate{start: r.Start, writes: map[string]api.Write{}}
		return
	}
	f := w.fates[r.By]
	if f == nil {
		w.Fatalf("%+v: %+v is of no transaction", o, r)
	}
	if f.kind != api.GotNothing || f.start != r.Start {
		w.Fatalf("it had ended: %+v, %+v", f, r)
	}
	switch r.Kind {
	case api.GotFine:
		switch o.Kind {
		case api.OpPut:
			f.writes[o.Key] = api.Write{Key: o.Key, Val: o.Val}
		case api.OpDelete:
			f.writes[o.Key] = api.Write{Key: o.Key, Dead: true}
		case api.OpAbort:
			f.kind = api.GotAborted
		}
	case api.GotValue:
		g := glance{from: o.Key, to: o.Key + "\x00", limit: 1}
		if r.Found {
			g.seen = []api.Pair{{Key: o.Key, Val: r.Val}}
		}
		w.look(g, r, f)
	case api.GotPairs:
		w.look(glance{from: o.Key, to: o.To, limit: min(max(o.Limit, 0), 16), seen: r.Pairs}, r, f)
	case api.GotCommitted, api.GotAborted, api.GotUnknown:
		f.kind, f.at, f.err = r.Kind, r.At, r.Err
	}
	if r.Err != api.OK {
		w.refusals = append(w.refusals, r)
	}
}

// look keeps a glance, with the writes that its transaction has by now.
func (w *world) look(g glance, r api.Result, f *fate) {
	g.by, g.start, g.own = r.By, r.Start, map[string]api.Write{}
	for k, own := range f.writes {
		g.own[k] = own
	}
	w.glances = append(w.glances, g)
}

// gather keeps all versions that there are, of which none may have been another before, and all verdicts, of which no two may differ.
func (w *world) gather() {
	for n := range w.Shards {
		for _, v := range w.Shard(n).Verdicts() {
			if old, ok := w.verdicts[v.By]; ok && old != v.At {
				w.fail("shard %d: %+v, but elsewhere by %v", n, v, old)
			}
			w.verdicts[v.By] = v.At
		}
		for _, item := range w.Shard(n).Items() {
			for _, v := range item.Chain {
				old, ok := w.versions[item.Key][v.At]
				if ok && old != v {
					w.Fatalf("%q: %+v was %+v", item.Key, v, old)
				}
				if w.versions[item.Key] == nil {
					w.versions[item.Key] = map[api.Ts]api.Version{}
				}
				w.versions[item.Key][v.At] = v
			}
		}
	}
}

// check holds all that was told against all versions that there have ever been: P0.1 and, but for what is still open, P0.2.
func (w *world) check() {
	w.Helper()
	for _, g := range w.glances {
		if want := w.sees(g); !slices.Equal(g.seen, want) {
			w.fail("%v at %v from %q to %q, limit %d: %v, want %v", g.by, g.start, g.from, g.to, g.limit, g.seen, want)
		}
	}
	for by, f := range w.fates {
		if f.kind != api.GotCommitted || len(f.writes) == 0 {
			continue
		}
		// The primary's shard has what it wrote ahead of anybody's being told.
		primary := slices.Min(slices.Collect(maps.Keys(f.writes)))
		if v, ok := w.versions[primary][f.at]; !ok || v.By != by || num(f.at) <= num(f.start) {
			w.fail("%v was told as committed: %+v, but of %q there is %+v", by, f, primary, v)
		}
	}
	for key, all := range w.versions {
		for _, v := range all {
			f := w.fates[v.By]
			if f == nil || f.kind == api.GotAborted || f.kind == api.GotNothing && !w.isBusy[v.By.Client] {
				w.fail("%q has %+v, but its transaction: %+v", key, v, f)
			}
			if f.kind == api.GotCommitted && f.at != v.At {
				w.fail("%q has %+v, but its transaction has committed by %v", key, v, f.at)
			}
			if at, ok := w.verdicts[v.By]; ok && at != v.At {
				w.fail("%q has %+v, but a shard has said of its transaction: %v", key, v, at)
			}
			if own, ok := f.writes[key]; !ok || own.Val != v.Val || own.Dead != v.Dead {
				w.fail("%q has %+v, but its transaction wrote %+v", key, v, own)
			}
			for _, other := range all {
				if num(other.At) < num(v.At) && num(f.start) < num(other.At) {
					w.fail("%q: %+v, begun at %v, didn't know of %+v", key, v, f.start, other)
				}
			}
		}
	}
}

// sees answers what a glance must see by all versions.
func (w *world) sees(g glance) []api.Pair {
	var l []api.Pair
	for _, k := range slices.Sorted(slices.Values(keys)) {
		if k < g.from || g.to != "" && k >= g.to || len(l) >= g.limit {
			continue
		}
		own, ok := g.own[k]
		if ok && !own.Dead {
			l = append(l, api.Pair{Key: k, Val: own.Val})
		}
		if ok {
			continue
		}
		var best api.Version
		for _, v := range w.versions[k] {
			if num(v.At) <= num(g.start) && num(v.At) >= num(best.At) {
				best = v
			}
		}
		if best.At != (api.Ts{}) && !best.Dead {
			l = append(l, api.Pair{Key: k, Val: best.Val})
		}
	}
	return l
}

// checkWhole holds each transaction's writes against each other, when all is settled: the rest of P0.2.
func (w *world) checkWhole() {
	w.Helper()
	for by, f := range w.fates {
		stamps := map[api.Ts]int{}
		for k := range f.writes {
			var at api.Ts
			for _, v := range w.versions[k] {
				if v.By == by {
					at = v.At
					stamps[at]++
				}
			}
			if at == (api.Ts{}) {
				stamps[at]++
			}
		}
		if len(f.writes) == 0 {
			continue
		}
		if f.kind == api.GotCommitted && stamps[f.at] != len(f.writes) {
			w.fail("%v has committed by %v, but has %v of %d", by, f.at, stamps, len(f.writes))
		}
		if len(stamps) != 1 {
			w.fail("%v is neither whole nor nothing: %v of %+v", by, stamps, f)
		}
	}
}

// fail tells all moves, so that they can be made anew.
func (w *world) fail(form string, args ...any) {
	w.Helper()
	w.Logf("%+v", w.Config)
	w.Log(tellMoves(w.moves))
	w.Fatalf(form, args...)
}

// do lets a client do an op.
func (w *world) do(client int, o api.Op) api.Result {
	w.Helper()
	return w.move(api.Move{Kind: api.MoveDo, Client: client, Op: o}).Result
}

// take lets the letters arrive that each raw picks, and answers what the last one showed.
func (w *world) take(raw ...int) api.Result {
	w.Helper()
	var r api.Result
	for _, n := range raw {
		r = w.move(api.Move{Kind: api.MoveTake, Raw: n}).Result
	}
	return r
}

// finish lets a client do an op, and letters arrive, in order, till it has come to something.
func (w *world) finish(client int, o api.Op) api.Result {
	w.Helper()
	r := w.do(client, o)
	for range 500 {
		if !w.isBusy[client] {
			return r
		}
		r = w.take(0)
	}
	w.fail("client %d: nothing comes of %+v", client, o)
	return r
}

// clocks lets all clocks read phys.
func (w *world) clocks(phys uint64) {
	w.Helper()
	for n := range w.Nodes {
		w.move(api.Move{Kind: api.MoveClock, Node: n, Phys: phys})
	}
	for n := range w.Clients {
		w.move(api.Move{Kind: api.MoveWatch, Client: n, Phys: phys})
	}
}

// on lets something happen to a node.
func (w *world) on(kind, node int, keep ...int) {
	w.Helper()
	w.move(api.Move{Kind: kind, Node: node, Keep: keep})
}

// calm lets no drum fall any more, all nodes be up, and all clocks read beyond all locks.
func (w *world) calm() {
	w.Helper()
	for n := range w.Shards {
		w.move(api.Move{Kind: api.MoveFuel, Shard: n, N: -1})
	}
	for n := range w.Nodes {
		w.on(api.MoveRise, n)
	}
	late := w.latest
	for n := range w.Shards {
		late = max(late, w.Shard(n).Bound().P)
	}
	w.clocks(late + 2*api.Ttl)
}

// quieten lets all letters arrive, and clients send what isn't answered once more, till nobody waits.
func (w *world) quieten() {
	w.Helper()
	for range 50 {
		for w.Letters() > 0 {
			w.take(0)
		}
		if w.Quiet() {
			return
		}
		for n := range w.Clients {
			w.move(api.Move{Kind: api.MoveAgain, Client: n})
		}
	}
	w.fail("it isn't quiet")
}

// settle lets nothing befall the cluster any more, and somebody read the keys that have intents: P0.4.
func (w *world) settle() {
	w.Helper()
	w.calm()
	w.quieten()
	for n := range w.Clients {
		if _, runs := w.Start(n); runs {
			w.do(n, abort)
		}
	}
	reader := w.Intn(w.Clients)
	w.do(reader, begin)
	for n := range w.Shards {
		for _, i := range w.Shard(n).Intents() {
			if r := w.finish(reader, get(i.Write.Key)); r.Kind != api.GotValue {
				w.fail("a read of %+v is refused: %+v", i, r)
			}
		}
	}
	for n := range w.Shards {
		if l := w.Shard(n).Intents(); len(l) > 0 {
			w.fail("shard %d has intents: %+v", n, l)
		}
	}
	w.do(reader, abort)
	// Later than all that was committed meanwhile, of which the writer need not have heard.
	w.clocks(w.latest + 1)
	writer := w.Intn(w.Clients)
	w.do(writer, begin)
	for _, k := range keys {
		w.do(writer, put(k, fmt.Sprint("last ", k)))
	}
	if r := w.finish(writer, commit); r.Kind != api.GotCommitted {
		w.fail("a new transaction is refused: %+v", r)
	}
	w.quieten()
}
