package cluster_test

import (
	"math"
	"testing"

	"dovecote/api"
	"dovecote/cluster"
)

// The tests of P19.1, move by move. Of two shards a lives on 0, b on 1; of four c, b, a and d live on 0, 1, 2 and 3.

// want holds what a move shows against what it must show.
func want(t *testing.T, have, want api.Shown) {
	t.Helper()
	if tell(have) != tell(want) {
		t.Fatalf("shown: %+v\nwant: %+v", have, want)
	}
}

// nothing is what most moves show.
var nothing api.Shown

// do lets a client do ops, none of which waits for anything.
func do(t *testing.T, c *cluster.Cluster, client int, ops ...api.Op) {
	t.Helper()
	for _, o := range ops {
		x := c.Move(api.Move{Kind: api.MoveDo, Client: client, Op: o})
		if x.Err != api.OK || x.Result.Kind != api.GotFine || x.Client != client {
			t.Fatalf("%+v: %+v", o, x)
		}
	}
}

// ask lets a client do an op, for which it sends so many letters, and of which nothing is shown yet.
func ask(t *testing.T, c *cluster.Cluster, client int, o api.Op, letters int) {
	t.Helper()
	before := c.Letters()
	want(t, c.Move(api.Move{Kind: api.MoveDo, Client: client, Op: o}), nothing)
	if n := c.Letters() - before; n != letters {
		t.Fatalf("%+v: %d letters, want %d", o, n, letters)
	}
}

// take lets the first letters arrive, of which nothing is shown, but of the last one, which is answered.
func take(t *testing.T, c *cluster.Cluster, times int) api.Shown {
	t.Helper()
	for range times - 1 {
		want(t, c.Move(api.Move{Kind: api.MoveTake}), nothing)
	}
	return c.Move(api.Move{Kind: api.MoveTake})
}

// under holds how many letters are under way against how many must be.
func under(t *testing.T, c *cluster.Cluster, letters int) {
	t.Helper()
	if c.Letters() != letters {
		t.Fatalf("%d letters, want %d", c.Letters(), letters)
	}
}

// ups holds which nodes are up against which must be.
func ups(t *testing.T, c *cluster.Cluster, up ...bool) {
	t.Helper()
	for n, u := range up {
		if c.Up(n) != u {
			t.Fatalf("node %d: up %v, want %v", n, c.Up(n), u)
		}
	}
}

// there holds which shards are there against which must be.
func there(t *testing.T, c *cluster.Cluster, is ...bool) {
	t.Helper()
	for n, u := range is {
		if (c.Shard(n) != nil) != u {
			t.Fatalf("shard %d: there %v, want %v", n, !u, u)
		}
	}
}

// outline tells the insides of all shards, and all that the cluster answers beside.
func outline(c *cluster.Cluster, cfg api.Config) string {
	var l []any
	for n := range cfg.Shards {
		l = append(l, inside(c.Shard(n)))
	}
	for n := range cfg.Nodes {
		l = append(l, c.Up(n))
	}
	for n := range cfg.Clients {
		start, ok := c.Start(n)
		l = append(l, start, ok)
	}
	return tell(append(l, c.Letters(), c.Quiet(), c.Safe()))
}

// TestNew: a Config at each of its bounds, just within them and just beyond them.
func TestNew(t *testing.T) {
	least := api.Config{Nodes: 1, Shards: 1, Clients: 1, Room: 0}
	most := api.Config{Nodes: 4, Shards: 8, Clients: 4, Room: 1048576}
	edit := func(c api.Config, field, n int) api.Config {
		*[]*int{&c.Nodes, &c.Shards, &c.Clients, &c.Room}[field] = n
		return c
	}
	right := []api.Config{least, most}
	wrong := []api.Config{{}, {Nodes: -1, Shards: -1, Clients: -1, Room: -1}, {Nodes: 5, Shards: 9, Clients: 5, Room: 1048577}}
	for field, lo := range []int{1, 1, 1, 0} {
		hi := []int{4, 8, 4, 1048576}[field]
		for _, c := range []api.Config{least, most} {
			right = append(right, edit(c, field, lo), edit(c, field, lo+1), edit(c, field, hi-1), edit(c, field, hi))
			wrong = append(wrong, edit(c, field, lo-1), edit(c, field, hi+1))
			wrong = append(wrong, edit(c, field, math.MinInt), edit(c, field, math.MaxInt), edit(c, field, 1<<32+1))
		}
	}
	for _, cfg := range wrong {
		if c, err := cluster.New(cfg); c != nil || err != api.ErrArg {
			t.Errorf("%+v: %v, %v", cfg, c, err)
		}
	}
	for _, cfg := range right {
		c, err := cluster.New(cfg)
		if c == nil || err != api.OK {
			t.Fatalf("%+v: %v", cfg, err)
		}
		if err := newPlain(t, cfg).same(c); err != nil {
			t.Errorf("%+v: %v", cfg, err)
		}
		if c.Letters() != 0 || !c.Quiet() || c.Safe() != (api.Ts{}) {
			t.Errorf("%+v: %d letters, quiet %v, safe %v", cfg, c.Letters(), c.Quiet(), c.Safe())
		}
		for n := range 9 {
			if c.Up(n) != (n < cfg.Nodes) || (c.Shard(n) != nil) != (n < cfg.Shards && cfg.Room > 14) {
				t.Errorf("%+v: node or shard %d: %v, %v", cfg, n, c.Up(n), c.Shard(n))
			}
		}
	}
}

// TestChapter: the chapter's example, and what is there behind each of its letters.
func TestChapter(t *testing.T) {
	c := opened(t, 1, 1, 1, 10000)
	want(t, c.Move(api.Move{Kind: api.MoveDo, Op: begin}), api.Shown{Result: api.Result{Kind: api.GotFine, By: api.Txn{N: 1}, Start: api.Ts{L: 1}, At: api.Ts{L: 1}}})
	if start, ok := c.Start(0); !ok || start != (api.Ts{L: 1}) {
		t.Error(start, ok)
	}
	do(t, c, 0, put("a", ""))
	ask(t, c, 0, commit, 1)
	if c.Quiet() {
		t.Error("quiet, though a letter is under way")
	}
	want(t, take(t, c, 1), nothing)
	if l := c.Shard(0).Intents(); len(l) != 1 || l[0].Min != (api.Ts{L: 2}) {
		t.Errorf("%+v", l)
	}
	want(t, take(t, c, 1), nothing)
	want(t, take(t, c, 1), nothing)
	under(t, c, 1)
	want(t, take(t, c, 1), api.Shown{Result: api.Result{Kind: api.GotCommitted, By: api.Txn{N: 1}, Start: api.Ts{L: 1}, At: api.Ts{L: 2}}})
	if _, ok := c.Start(0); ok {
		t.Error("it has ended")
	}
	under(t, c, 1)
	if v := c.Shard(0).Verdicts(); len(v) != 1 || v[0].Done {
		t.Errorf("%+v", v)
	}
	want(t, take(t, c, 2), nothing)
	if v := c.Shard(0).Verdicts(); len(v) != 1 || !v[0].Done || !c.Quiet() {
		t.Errorf("%+v", v)
	}
}

// TestKinds: a move of another Kind, or of a number that isn't there, is refused, and nothing happens, whatever else it has.
func TestKinds(t *testing.T) {
	cfg := api.Config{Nodes: 2, Shards: 3, Clients: 2, Room: 10000}
	c := opened(t, cfg.Nodes, cfg.Shards, cfg.Clients, cfg.Room)
	do(t, c, 1, begin, put("a", "x"))
	ask(t, c, 1, commit, 1)
	before := outline(c, cfg)
	refused := func(m api.Move) {
		t.Helper()
		want(t, c.Move(m), api.Shown{Err: api.ErrArg})
		if after := outline(c, cfg); after != before {
			t.Fatalf("%+v: %s\nwas %s", m, after, before)
		}
	}
	for _, kind := range []int{0, -1, 14, 15, 255, 256 + 7, 1 << 32, math.MinInt, math.MaxInt} {
		refused(api.Move{Kind: kind, Op: commit, Keep: []int{1}})
		refused(api.Move{Kind: kind, Client: -1, Node: 9, Shard: 9})
	}
	for _, kind := range []int{api.MoveDo, api.MoveWatch, api.MoveAgain, api.MoveGive} {
		for _, n := range []int{-1, 2, 3, 1 << 32, math.MinInt, math.MaxInt} {
			refused(api.Move{Kind: kind, Client: n, Op: begin, Phys: 9})
		}
	}
	for _, kind := range []int{api.MoveClock, api.MoveKill, api.MoveRise} {
		for _, n := range []int{-1, 2, 3, 1 << 32, math.MinInt, math.MaxInt} {
			refused(api.Move{Kind: kind, Node: n, Phys: 9})
		}
	}
	for _, kind := range []int{api.MoveFuel, api.MoveRenew} {
		for _, n := range []int{-1, 3, 4, 1 << 32, math.MinInt, math.MaxInt} {
			refused(api.Move{Kind: kind, Shard: n})
		}
	}
}

// TestLast: the last client, node and shard are there; a number that a move doesn't have plays no part in it.
func TestLast(t *testing.T) {
	c := opened(t, 2, 3, 4, 10000)
	for kind := 1; kind <= 13; kind++ {
		for _, other := range []int{-1, 0, 99} {
			m := api.Move{Kind: kind, Client: other, Node: other, Shard: other, Op: begin}
			switch kind {
			case api.MoveDo, api.MoveWatch, api.MoveAgain, api.MoveGive:
				m.Client = 3
			case api.MoveClock, api.MoveKill, api.MoveRise:
				m.Node = 1
			case api.MoveFuel, api.MoveRenew:
				m.Shard, m.N = 2, -1
			}
			if x := c.Move(m); x.Err != api.OK {
				t.Errorf("%+v: %+v", m, x)
			}
		}
	}
}

// TestDo: a client's op, by its own clock; a result that is an error is no error of the move.
func TestDo(t *testing.T) {
	c := opened(t, 1, 2, 3, 10000)
	want(t, c.Move(api.Move{Kind: api.MoveWatch, Client: 1, Phys: 70}), nothing)
	want(t, c.Move(api.Move{Kind: api.MoveWatch, Client: 2, Phys: 1<<48 + 1}), nothing)
	want(t, c.Move(api.Move{Kind: api.MoveClock, Phys: 500}), nothing)
	fine := func(client int, start api.Ts) api.Shown {
		return api.Shown{Client: client, Result: api.Result{Kind: api.GotFine, By: api.Txn{Client: uint32(client), N: 1}, Start: start, At: start}}
	}
	want(t, c.Move(api.Move{Kind: api.MoveDo, Client: 1, Op: begin}), fine(1, api.Ts{P: 70}))
	want(t, c.Move(api.Move{Kind: api.MoveDo, Client: 0, Op: begin}), fine(0, api.Ts{L: 1}))
	want(t, c.Move(api.Move{Kind: api.MoveDo, Client: 2, Op: begin}), api.Shown{Client: 2, Result: api.Result{Kind: api.GotError, Err: api.ErrOver}})
	want(t, c.Move(api.Move{Kind: api.MoveWatch, Client: 2, Phys: 1 << 48}), nothing)
	want(t, c.Move(api.Move{Kind: api.MoveDo, Client: 2, Op: commit}), api.Shown{Client: 2, Result: api.Result{Kind: api.GotError, Err: api.ErrIdle}})
	want(t, c.Move(api.Move{Kind: api.MoveDo, Client: 2, Op: begin}), fine(2, api.Ts{P: 1 << 48}))
	under(t, c, 0)
	ask(t, c, 1, scan("", "", 5), 2)
	ask(t, c, 0, get("b"), 1)
	want(t, c.Move(api.Move{Kind: api.MoveDo, Client: 1, Op: get("a")}), api.Shown{Client: 1, Result: api.Result{Kind: api.GotError, Err: api.ErrBusy, By: api.Txn{Client: 1, N: 1}, Start: api.Ts{P: 70}}})
	under(t, c, 3)
}

// TestTake: a letter arrives from its place; a request is handled by its shard, by the clock of that's node; an answer is heard by its client.
func TestTake(t *testing.T) {
	c := opened(t, 2, 4, 2, 10000)
	for _, raw := range []int{0, 1, -1, math.MinInt, math.MaxInt} {
		want(t, c.Move(api.Move{Kind: api.MoveTake, Raw: raw}), nothing)
	}
	c.Move(api.Move{Kind: api.MoveClock, Node: 0, Phys: 30})
	c.Move(api.Move{Kind: api.MoveClock, Node: 1, Phys: 40})
	c.Move(api.Move{Kind: api.MoveWatch, Client: 1, Phys: 20})
	do(t, c, 0, begin, put("d", "x"))
	do(t, c, 1, begin, put("a", "y"))
	ask(t, c, 0, commit, 1)
	ask(t, c, 1, commit, 1)
	// d is on shard 3, at node 1, a on shard 2, at node 0.
	want(t, c.Move(api.Move{Kind: api.MoveTake, Raw: -1}), nothing)
	if l := c.Shard(2).Intents(); len(l) != 1 || l[0].By != (api.Txn{Client: 1, N: 1}) || l[0].Min != (api.Ts{P: 30}) || l[0].Write.Key != "a" {
		t.Fatalf("%+v", l)
	}
	under(t, c, 2)
	want(t, c.Move(api.Move{Kind: api.MoveTake, Raw: 2}), nothing)
	if l := c.Shard(3).Intents(); len(l) != 1 || l[0].By != (api.Txn{N: 1}) || l[0].Min != (api.Ts{P: 40}) || l[0].Write.Key != "d" {
		t.Fatalf("%+v", l)
	}
	under(t, c, 2)
	// The answers: client 1's, then client 0's; each leads to a Decide.
	want(t, take(t, c, 2), nothing)
	under(t, c, 2)
	want(t, take(t, c, 2), nothing)
	got := func(client int, start, at api.Ts) api.Shown {
		return api.Shown{Client: client, Result: api.Result{Kind: api.GotCommitted, By: api.Txn{Client: uint32(client), N: 1}, Start: start, At: at}}
	}
	want(t, c.Move(api.Move{Kind: api.MoveTake, Raw: 1}), got(0, api.Ts{L: 1}, api.Ts{P: 40}))
	want(t, c.Move(api.Move{Kind: api.MoveTake, Raw: 0}), got(1, api.Ts{P: 20}, api.Ts{P: 30}))
	under(t, c, 2)
	want(t, take(t, c, 4), nothing)
	under(t, c, 0)
	want(t, c.Move(api.Move{Kind: api.MoveTake}), nothing)
	if !c.Quiet() {
		t.Error("not quiet")
	}
}

// TestTakeDown: a request to a shard whose node is down is gone, and not answered; the answer of a shard whose node is down is heard.
func TestTakeDown(t *testing.T) {
	c := opened(t, 2, 4, 2, 10000)
	do(t, c, 0, begin)
	do(t, c, 1, begin)
	ask(t, c, 0, get("a"), 1)
	want(t, c.Move(api.Move{Kind: api.MoveKill, Node: 0}), nothing)
	under(t, c, 1)
	want(t, take(t, c, 1), nothing)
	under(t, c, 0)
	if c.Quiet() {
		t.Error("quiet, though client 0 waits")
	}
	ask(t, c, 1, get("b"), 1)
	want(t, take(t, c, 1), nothing)
	want(t, c.Move(api.Move{Kind: api.MoveKill, Node: 1}), nothing)
	value := api.Shown{Client: 1, Result: api.Result{Kind: api.GotValue, By: api.Txn{Client: 1, N: 1}, Start: api.Ts{L: 1}}}
	want(t, take(t, c, 1), value)
	under(t, c, 0)
	// Up again, and asked again.
	want(t, c.Move(api.Move{Kind: api.MoveRise, Node: 0}), nothing)
	want(t, c.Move(api.Move{Kind: api.MoveAgain, Client: 0}), nothing)
	value.Client, value.Result.By.Client = 0, 0
	want(t, take(t, c, 2), value)
	if !c.Quiet() {
		t.Error("not quiet")
	}
}

// TestNoRoom: a shard that can't be opened is as none, though its node is up.
func TestNoRoom(t *testing.T) {
	for _, room := range []int{0, 1, 14} {
		c := opened(t, 2, 2, 1, room)
		for range 2 {
			ups(t, c, true, true)
			there(t, c, false, false)
			want(t, c.Move(api.Move{Kind: api.MoveKill, Node: 1}), nothing)
			ups(t, c, true, false)
			want(t, c.Move(api.Move{Kind: api.MoveRenew, Shard: 1}), nothing)
			want(t, c.Move(api.Move{Kind: api.MoveRise, Node: 1, Keep: []int{99, 99, 99, 99}}), nothing)
		}
		do(t, c, 0, begin, put("a", "x"))
		ask(t, c, 0, commit, 1)
		want(t, take(t, c, 1), nothing)
		under(t, c, 0)
		// A shard that is none answers as a nil one does; its drum isn't down by that.
		want(t, c.Move(api.Move{Kind: api.MoveRenew, Shard: 1}), api.Shown{Err: api.ErrDown})
		want(t, c.Move(api.Move{Kind: api.MoveFuel, Shard: 1}), nothing)
		want(t, c.Move(api.Move{Kind: api.MoveRenew, Shard: 1}), api.Shown{Err: api.ErrDown})
		ups(t, c, true, true)
		// No clock holds the safe time, as there is none: the transaction does.
		want(t, c.Move(api.Move{Kind: api.MoveSafe}), nothing)
		if c.Safe() != (api.Ts{L: 1}) {
			t.Errorf("safe %v", c.Safe())
		}
		under(t, c, 2)
		want(t, take(t, c, 2), nothing)
		under(t, c, 0)
	}
	there(t, opened(t, 2, 2, 1, 15), true, true)
}

// TestFull: a drum that is full refuses what it has no room for; its node stays up.
func TestFull(t *testing.T) {
	c := opened(t, 1, 1, 1, 40)
	do(t, c, 0, begin, put("a", long(256)))
	ask(t, c, 0, commit, 1)
	want(t, take(t, c, 2), api.Shown{Result: api.Result{Kind: api.GotAborted, Err: api.ErrFull, By: api.Txn{N: 1}, Start: api.Ts{L: 1}}})
	ups(t, c, true)
	there(t, c, true)
	under(t, c, 1)
}

// TestLose: a letter that is lost never arrives; lost is the one that Raw picks.
func TestLose(t *testing.T) {
	c := opened(t, 1, 4, 1, 10000)
	want(t, c.Move(api.Move{Kind: api.MoveLose, Raw: 3}), nothing)
	do(t, c, 0, begin)
	ask(t, c, 0, scan("", "", 9), 4)
	want(t, c.Move(api.Move{Kind: api.MoveLose, Raw: -3}), nothing)
	want(t, c.Move(api.Move{Kind: api.MoveLose, Raw: 5}), nothing)
	under(t, c, 2)
	want(t, take(t, c, 4), nothing)
	under(t, c, 0)
	// At place 1 of four there was what shard 1 was to be asked, at place 2 of three what shard 3 was.
	for n, want := range []api.Ts{{L: 1}, {}, {L: 1}, {}} {
		if have := c.Shard(n).Clock(); have != want {
			t.Errorf("shard %d: %v, want %v", n, have, want)
		}
	}
	if c.Quiet() {
		t.Error("quiet, though two answers are missing")
	}
	want(t, c.Move(api.Move{Kind: api.MoveAgain}), nothing)
	under(t, c, 2)
	want(t, take(t, c, 4), api.Shown{Result: api.Result{Kind: api.GotPairs, By: api.Txn{N: 1}, Start: api.Ts{L: 1}}})
}
