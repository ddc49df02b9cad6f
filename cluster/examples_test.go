package cluster_test

import (
	"testing"

	"dovecote/api"
)

// The ten examples of the whole, one by one; behind each what was told is held against what there is. Of two shards a lives on 0, at node 0, b on 1, at node 1.

// exampleWorld has two nodes, with a shard each, and two clients; all clocks read 10.
func exampleWorld(t *testing.T) *world {
	w := newWorld(t, 1, api.Config{Nodes: 2, Shards: 2, Clients: 2, Room: 10000})
	w.clocks(10)
	return w
}

// gets holds a result against a kind, and an error.
func (w *world) gets(r api.Result, kind int, err api.Errno) {
	w.Helper()
	if r.Kind != kind || r.Err != err {
		w.fail("%+v, want kind %d, %v", r, kind, err)
	}
}

// reads holds what a client reads of a key against a value; of an empty one there is none.
func (w *world) reads(client int, key, val string) {
	w.Helper()
	r := w.finish(client, get(key))
	if r.Kind != api.GotValue || r.Found != (val != "") || r.Val != val {
		w.fail("%q: %+v, want %q", key, r, val)
	}
}

// has holds how many versions and intents a shard has against how many it must have.
func (w *world) has(shard, versions, intents int) {
	w.Helper()
	n := 0
	for _, item := range w.Shard(shard).Items() {
		n += len(item.Chain)
	}
	if l := w.Shard(shard).Intents(); n != versions || len(l) != intents {
		w.fail("shard %d: %s, want %d versions, %d intents", shard, inside(w.Shard(shard)), versions, intents)
	}
}

// waits holds how many letters are under way against how many must be.
func (w *world) waits(letters int) {
	w.Helper()
	if w.Letters() != letters {
		w.fail("%d letters, want %d", w.Letters(), letters)
	}
}

// pair lets client 0 begin, write a and b, and ask for both to be laid.
func (w *world) pair(a, b string) {
	w.Helper()
	w.do(0, begin)
	w.do(0, put("a", a))
	w.do(0, put("b", b))
	w.gets(w.do(0, commit), api.GotNothing, api.OK)
	w.waits(2)
}

// decide lets both be laid, and that be heard.
func (w *world) decide() {
	w.Helper()
	w.gets(w.take(0, 0, 0, 0), api.GotNothing, api.OK)
	w.waits(1)
	w.has(0, 0, 1)
	w.has(1, 0, 1)
}

// end settles all, and holds it against what was told.
func (w *world) end() {
	w.Helper()
	w.settle()
	w.check()
	w.checkWhole()
}

func TestExample1(t *testing.T) {
	w := exampleWorld(t)
	w.pair("x", "y") // two Lays
	w.decide()       // a Decide
	w.gets(w.take(0), api.GotNothing, api.OK)
	w.has(0, 1, 0)
	w.has(1, 0, 1)
	r := w.take(0)
	w.gets(r, api.GotCommitted, api.OK)
	w.waits(1) // an Apply
	w.take(0)
	w.has(1, 1, 0)
	w.take(0)
	w.waits(1) // a Done
	if v := w.Shard(0).Verdicts(); len(v) != 1 || v[0].At != r.At || v[0].Parts != 3 || v[0].Done {
		w.fail("%+v", v)
	}
	w.take(0)
	if v := w.Shard(0).Verdicts(); len(v) != 1 || !v[0].Done || len(w.Shard(1).Verdicts()) != 0 {
		w.fail("%+v", v)
	}
	w.take(0)
	if !w.Quiet() {
		w.fail("not quiet")
	}
	w.end()
}

func TestExample2(t *testing.T) {
	w := exampleWorld(t)
	w.do(1, begin)
	w.do(0, begin)
	w.do(0, put("a", "x"))
	w.do(0, put("b", "y"))
	w.gets(w.finish(0, commit), api.GotCommitted, api.OK)
	w.quieten()
	w.reads(1, "a", "")
	w.reads(1, "b", "")
	w.gets(w.do(1, put("a", "late")), api.GotFine, api.OK)
	w.gets(w.finish(1, commit), api.GotAborted, api.ErrBusy)
	w.do(1, begin)
	w.reads(1, "a", "x")
	w.reads(1, "b", "y")
	w.end()
}

func TestExample3(t *testing.T) {
	w := exampleWorld(t)
	w.pair("x", "y")
	w.decide()
	w.take(0)
	w.move(api.Move{Kind: api.MoveLose})
	w.gets(w.move(api.Move{Kind: api.MoveGive}).Result, api.GotUnknown, api.ErrLost)
	w.clocks(20)
	w.do(1, begin)
	w.reads(1, "a", "x")
	w.has(1, 0, 1)
	w.reads(1, "b", "y")
	w.has(1, 1, 0)
	w.end()
}

func TestExample4(t *testing.T) {
	for _, keep := range []int{0, 1, 14} {
		w := exampleWorld(t)
		w.pair("x", "y")
		w.decide()
		// The Commit entry is written, and not synced.
		w.move(api.Move{Kind: api.MoveFuel, Shard: 0, N: 1})
		w.take(0)
		ups(t, w.Cluster, false, true)
		w.waits(0)
		w.on(api.MoveRise, 0, keep)
		w.has(0, 0, 1)
		w.gets(w.move(api.Move{Kind: api.MoveGive}).Result, api.GotUnknown, api.ErrLost)
		// Too soon: the reader passes over it, and it may commit still.
		w.clocks(110)
		w.do(1, begin)
		w.reads(1, "b", "")
		w.has(0, 0, 1)
		w.has(1, 0, 1)
		w.do(1, abort)
		w.clocks(111)
		w.do(1, begin)
		w.reads(1, "b", "")
		w.has(0, 0, 0)
		w.has(1, 0, 0)
		w.reads(1, "a", "")
		w.end()
	}
}

func TestExample5(t *testing.T) {
	for _, steps := range []int{1, 2} {
		w := exampleWorld(t)
		w.pair("x", "y")
		w.decide()
		// Behind the sync; or ahead of it, but all of the entry is kept.
		w.move(api.Move{Kind: api.MoveFuel, Shard: 0, N: steps})
		w.take(0)
		ups(t, w.Cluster, steps == 2, true)
		w.waits(steps - 1)
		w.on(api.MoveKill, 0)
		w.on(api.MoveRise, 0, 99)
		w.has(0, 1, 0)
		w.has(1, 0, 1)
		w.clocks(20)
		w.do(1, begin)
		w.reads(1, "b", "y")
		w.has(1, 1, 0)
		w.reads(1, "a", "x")
		w.end()
	}
}

func TestExample6(t *testing.T) {
	w := exampleWorld(t)
	w.pair("x", "y")
	w.take(0, 0)
	w.waits(2)
	w.move(api.Move{Kind: api.MoveWatch, Client: 1, Phys: 900})
	w.do(1, begin)
	// The answers to the Lays wait, while the reader's letters go to and fro: Get, Locked, Push, Pushed, Get, Value.
	w.gets(w.do(1, get("b")), api.GotNothing, api.OK)
	w.gets(w.take(2, 2, 2, 2, 2), api.GotNothing, api.OK)
	if l := w.Shard(0).Intents(); len(l) != 1 || l[0].Min != (api.Ts{P: 900, L: 1}) {
		w.fail("%+v", l)
	}
	r := w.take(2)
	w.gets(r, api.GotValue, api.OK)
	if r.Found || r.Start != (api.Ts{P: 900}) {
		w.fail("%+v", r)
	}
	// Above 900: the first Decide is too low.
	r = w.take(0, 0, 0, 0, 0, 0)
	w.gets(r, api.GotCommitted, api.OK)
	if r.At != (api.Ts{P: 900, L: 1}) {
		w.fail("%+v", r)
	}
	w.quieten()
	w.reads(1, "b", "")
	w.reads(1, "a", "")
	w.end()
}

func TestExample7(t *testing.T) {
	w := exampleWorld(t)
	w.clocks(500)
	w.do(0, begin)
	w.do(0, put("a", "x"))
	w.gets(w.finish(0, commit), api.GotCommitted, api.OK)
	w.quieten()
	bound := api.Ts{P: 564, L: 4095}
	if s := w.Shard(0); s.Clock() != (api.Ts{P: 500, L: 1}) || s.Bound() != bound {
		w.fail("%s", inside(s))
	}
	w.on(api.MoveKill, 0)
	w.move(api.Move{Kind: api.MoveClock, Node: 0, Phys: 0})
	w.on(api.MoveRise, 0)
	if s := w.Shard(0); s.Clock() != bound || s.Bound() != bound {
		w.fail("%s", inside(s))
	}
	w.do(0, begin)
	w.do(0, put("a", "y"))
	r := w.finish(0, commit)
	w.gets(r, api.GotCommitted, api.OK)
	if r.At != (api.Ts{P: 565}) {
		w.fail("%+v", r)
	}
	w.end()
}

func TestExample8(t *testing.T) {
	w := exampleWorld(t)
	for _, ahead := range []uint64{1000, 1001, 2000} {
		w.move(api.Move{Kind: api.MoveWatch, Client: 0, Phys: 10 + ahead})
		w.do(0, begin)
		r := w.finish(0, get("a"))
		if ahead <= api.MaxSkew {
			w.gets(r, api.GotValue, api.OK)
			w.do(0, abort)
			continue
		}
		w.gets(r, api.GotError, api.ErrSkew)
		w.do(0, put("a", "x"))
		w.gets(w.finish(0, commit), api.GotAborted, api.ErrSkew)
	}
	w.end()
}

func TestExample9(t *testing.T) {
	w := exampleWorld(t)
	write := func(phys uint64, val string) {
		w.clocks(phys)
		w.do(0, begin)
		w.do(0, put("a", val))
		w.do(0, put("b", val))
		w.gets(w.finish(0, commit), api.GotCommitted, api.OK)
		w.quieten()
	}
	safe := func() {
		w.move(api.Move{Kind: api.MoveSafe})
		w.quieten()
	}
	write(20, "1")
	write(30, "2")
	w.clocks(35)
	w.do(1, begin)
	write(40, "3")
	write(50, "4")
	safe()
	if w.Safe() != (api.Ts{P: 35}) {
		w.fail("safe %v", w.Safe())
	}
	// That of 20 is gone; that of 30 is what the transaction at 35 reads.
	w.has(0, 3, 0)
	w.has(1, 3, 0)
	w.reads(1, "a", "2")
	w.reads(1, "b", "2")
	w.do(1, abort)
	safe()
	w.has(0, 1, 0)
	w.has(1, 1, 0)
	w.check()
	w.do(1, begin)
	w.reads(1, "a", "4")
	// A snapshot below the safe time can't be read any more.
	w.do(1, abort)
	v := newWorld(t, 1, w.Config)
	v.clocks(10)
	v.do(0, begin)
	v.finish(0, scan("", "", 9))
	v.do(0, abort)
	v.clocks(30)
	v.do(0, begin)
	v.finish(0, scan("", "", 9))
	v.do(0, abort)
	v.move(api.Move{Kind: api.MoveSafe})
	v.quieten()
	v.move(api.Move{Kind: api.MoveWatch, Client: 1, Phys: 20})
	v.do(1, begin)
	v.gets(v.finish(1, get("a")), api.GotError, api.ErrOld)
	v.do(1, put("a", "x"))
	v.gets(v.finish(1, commit), api.GotAborted, api.ErrOld)
	v.end()
	w.end()
}

func TestExample10(t *testing.T) {
	for _, isGiven := range []bool{false, true} {
		w := exampleWorld(t)
		w.pair("x", "y")
		w.move(api.Move{Kind: api.MoveDouble, Raw: 0})
		w.move(api.Move{Kind: api.MoveDouble, Raw: 1})
		// The doubles are the last two, and stay so for now.
		if isGiven {
			w.gets(w.move(api.Move{Kind: api.MoveGive}).Result, api.GotAborted, api.ErrLost)
			w.take(0, 0, 2, 2) // the Lays, and the two chores
		} else {
			w.take(0, 0, 2, 2) // the Lays, and their answers
			w.gets(w.take(2, 2), api.GotCommitted, api.OK)
			w.take(2, 2, 2, 2) // Apply, Done, and their answers
		}
		before := inside(w.Shard(0)) + inside(w.Shard(1))
		w.take(0, 0)
		if after := inside(w.Shard(0)) + inside(w.Shard(1)); after != before {
			w.fail("%s, was %s", after, before)
		}
		for n := range 2 {
			if l := w.Shard(n).Intents(); len(l) != 0 {
				w.fail("%+v", l)
			}
		}
		w.end()
	}
}

// TestLatePush: a reader asks what has come of a transaction when its verdict is gone: what it wrote tells it, and no shard says otherwise.
func TestLatePush(t *testing.T) {
	w := exampleWorld(t)
	w.move(api.Move{Kind: api.MoveWatch, Client: 1, Phys: 50})
	w.pair("x", "y")
	w.decide()
	w.do(1, begin)
	w.gets(w.do(1, get("b")), api.GotNothing, api.OK)
	w.take(1, 1) // Get, Locked: Push is under way behind Decide
	// Decide, Apply and Done overtake it.
	w.take(0)
	w.gets(w.take(1), api.GotCommitted, api.OK)
	w.take(1, 1, 1, 1)
	w.waits(1)
	w.move(api.Move{Kind: api.MoveSafe})
	w.take(1)
	w.move(api.Move{Kind: api.MoveLose, Raw: 1}) // shard 1 isn't told
	if len(w.Shard(0).Verdicts()) != 0 || w.Shard(0).Safe() == w.Shard(1).Safe() {
		w.fail("%s, %s", inside(w.Shard(0)), inside(w.Shard(1)))
	}
	w.has(0, 1, 0)
	w.take(0)
	w.gets(w.take(0), api.GotNothing, api.OK) // of what is told of the safe time
	r := w.take(0, 0, 0, 0, 0)                // Committed, Apply, Fine, Get, Value
	w.gets(r, api.GotValue, api.OK)
	if r.Val != "y" || len(w.Shard(1).Verdicts()) != 0 {
		w.fail("%+v, %s", r, inside(w.Shard(1)))
	}
	w.end()
}
