package cluster_test

import (
	"math"
	"testing"

	"dovecote/api"
	"dovecote/cluster"
	"dovecote/shard"
)

// TestDouble: a letter that is doubled arrives twice; the second answer is heard by nobody.
func TestDouble(t *testing.T) {
	c := opened(t, 1, 1, 1, 10000)
	want(t, c.Move(api.Move{Kind: api.MoveDouble}), nothing)
	under(t, c, 0)
	do(t, c, 0, begin, put("a", "x"))
	ask(t, c, 0, commit, 1)
	want(t, c.Move(api.Move{Kind: api.MoveDouble, Raw: 77}), nothing)
	under(t, c, 2)
	want(t, take(t, c, 2), nothing)
	if l := c.Shard(0).Intents(); len(l) != 1 || l[0].Min != (api.Ts{L: 2}) {
		t.Fatalf("%+v", l)
	}
	under(t, c, 2)
	// Both tell Laid; the first leads to Decide, the second to nothing.
	want(t, take(t, c, 2), nothing)
	under(t, c, 1)
	want(t, take(t, c, 1), nothing)
	want(t, c.Move(api.Move{Kind: api.MoveDouble}), nothing)
	committed := api.Shown{Result: api.Result{Kind: api.GotCommitted, By: api.Txn{N: 1}, Start: api.Ts{L: 1}, At: api.Ts{L: 2}}}
	want(t, take(t, c, 1), committed)
	want(t, take(t, c, 1), nothing)
	under(t, c, 1)
}

// TestPostFull: what the post has no room for is lost: of what a client sends, of what is doubled, of the safe time.
func TestPostFull(t *testing.T) {
	c := opened(t, 1, 8, 1, 10000)
	do(t, c, 0, begin)
	ask(t, c, 0, scan("", "", 9), 8)
	again := api.Move{Kind: api.MoveAgain}
	for n := 2; n <= 30; n++ {
		want(t, c.Move(again), nothing)
		under(t, c, min(8*n, 200))
	}
	want(t, c.Move(api.Move{Kind: api.MoveDouble}), nothing)
	want(t, c.Move(api.Move{Kind: api.MoveSafe}), nothing)
	under(t, c, 200)
	want(t, c.Move(api.Move{Kind: api.MoveLose, Raw: 1}), nothing)
	want(t, c.Move(api.Move{Kind: api.MoveLose, Raw: 2}), nothing)
	want(t, c.Move(api.Move{Kind: api.MoveLose, Raw: 3}), nothing)
	under(t, c, 197)
	// Three letters of eight find room: those to shards 0, 1 and 2, at the end.
	want(t, c.Move(again), nothing)
	under(t, c, 200)
	for range 197 {
		want(t, c.Move(api.Move{Kind: api.MoveLose}), nothing)
	}
	want(t, take(t, c, 3), nothing)
	for n := range 8 {
		if have, want := c.Shard(n).Clock() != (api.Ts{}), n < 3; have != want {
			t.Errorf("shard %d was asked: %v, want %v", n, have, want)
		}
	}
	// An answer has the room that its request had.
	for range 100 {
		c.Move(again)
	}
	under(t, c, 200)
	want(t, c.Move(api.Move{Kind: api.MoveTake, Raw: -1}), nothing)
	under(t, c, 200)
}

// TestClocks: each node and each client has a clock of its own, which may read anything, and goes on while its node is down.
func TestClocks(t *testing.T) {
	c := opened(t, 2, 2, 2, 10000)
	clock := func(node int, phys uint64) {
		t.Helper()
		want(t, c.Move(api.Move{Kind: api.MoveClock, Node: node, Phys: phys}), nothing)
	}
	watch := func(client int, phys uint64) {
		t.Helper()
		want(t, c.Move(api.Move{Kind: api.MoveWatch, Client: client, Phys: phys}), nothing)
	}
	watch(0, 900)
	watch(1, 5)
	do(t, c, 0, begin)
	do(t, c, 1, begin)
	for n, want := range []api.Ts{{P: 900}, {P: 5}} {
		if start, ok := c.Start(n); !ok || start != want {
			t.Errorf("client %d: %v, %v", n, start, ok)
		}
	}
	want(t, c.Move(api.Move{Kind: api.MoveKill, Node: 1}), nothing)
	clock(1, 300)
	want(t, c.Move(api.Move{Kind: api.MoveRise, Node: 1}), nothing)
	watch(0, 0)
	clock(0, 1<<64-1)
	do(t, c, 0, put("a", "x"), put("b", "y"))
	ask(t, c, 0, commit, 2)
	want(t, take(t, c, 2), nothing)
	// Node 0's clock reads more than there can be; node 1's is behind the start, but not too far.
	if l := c.Shard(0).Intents(); len(l) != 0 {
		t.Errorf("%+v", l)
	}
	if l := c.Shard(1).Intents(); len(l) != 1 || l[0].Min != (api.Ts{P: 900, L: 1}) {
		t.Errorf("%+v", l)
	}
	want(t, take(t, c, 1), api.Shown{Result: api.Result{Kind: api.GotAborted, Err: api.ErrOver, By: api.Txn{N: 1}, Start: api.Ts{P: 900}}})
	// Its watch goes back, the session's clock doesn't.
	do(t, c, 0, begin)
	if start, _ := c.Start(0); start != (api.Ts{P: 900, L: 1}) {
		t.Error(start)
	}
}

// TestKillAndRise: a node that is down has no shards, others have theirs; up again it has what its drums have.
func TestKillAndRise(t *testing.T) {
	c := opened(t, 2, 8, 1, 10000)
	do(t, c, 0, begin)
	for _, k := range []string{"a", "b", "c", "d", "e", "f", "g", "h"} {
		do(t, c, 0, put(k, k))
	}
	ask(t, c, 0, commit, 8)
	for range 34 {
		c.Move(api.Move{Kind: api.MoveTake})
	}
	if !c.Quiet() {
		t.Fatal("not quiet")
	}
	cfg := api.Config{Nodes: 2, Shards: 8, Clients: 1}
	before := outline(c, cfg)
	var old []*shard.Shard
	for n := range 8 {
		old = append(old, c.Shard(n))
	}
	rise := func(node int, keep ...int) {
		t.Helper()
		want(t, c.Move(api.Move{Kind: api.MoveRise, Node: node, Keep: keep}), nothing)
	}
	kill := func(node int) {
		t.Helper()
		want(t, c.Move(api.Move{Kind: api.MoveKill, Node: node}), nothing)
	}
	// Up already: nothing happens, not even to the shards.
	rise(0)
	rise(1, 1, 2, 3, 4, 5)
	for n := range 8 {
		if c.Shard(n) != old[n] {
			t.Errorf("shard %d was opened anew", n)
		}
	}
	if after := outline(c, cfg); after != before {
		t.Errorf("%s\nwas %s", after, before)
	}
	for range 2 { // the second one finds it down
		kill(1)
		ups(t, c, true, false)
		there(t, c, true, false, true, false, true, false, true, false)
	}
	kill(0)
	ups(t, c, false, false)
	there(t, c, make([]bool, 8)...)
	for _, keep := range [][]int{nil, {0}, {1, 2}, {-1, 9, 9}, {9, 9, 9, 9}, {9, 9, 9, 9, 9, 9}} {
		rise(0, keep...)
		ups(t, c, true, false)
		there(t, c, true, false, true, false, true, false, true, false)
		rise(1, keep...)
		ups(t, c, true, true)
		for n := range 8 {
			s := c.Shard(n)
			if s == nil || s == old[n] {
				t.Fatalf("shard %d: %v, was %v", n, s, old[n])
			}
			if tell(s.Items()) != tell(old[n].Items()) || tell(s.Verdicts()) != tell(old[n].Verdicts()) || len(s.Items()) != 1 {
				t.Errorf("shard %d: %s, was %s", n, inside(s), inside(old[n]))
			}
			if s.Clock() != s.Bound() {
				t.Errorf("shard %d: clock %v, bound %v", n, s.Clock(), s.Bound())
			}
		}
		kill(1)
		kill(0)
	}
}

// layFrame is how many bytes a Lay of one write of one byte takes on a drum: the frame's first byte, its length, the log's mark and the Kind; By, Start, Min and Primary, two each; how many writes; a key and a value, two each, and whether it is dead; the sum.
const layFrame = 4 + 4*2 + 1 + 2*2 + 1 + 4

// laid answers a cluster of one node, of whose shards' drums one is down in the middle of a request: a Lay that was written, and not synced.
func laid(t *testing.T, shards int, renew bool) *cluster.Cluster {
	t.Helper()
	c := opened(t, 1, shards, 1, 10000)
	do(t, c, 0, begin)
	// A read lays the bounds, so that a Lay needs no more than its own entry.
	ask(t, c, 0, scan("", "", 1), shards)
	take(t, c, 2*shards)
	if renew {
		want(t, c.Move(api.Move{Kind: api.MoveRenew}), nothing)
	}
	do(t, c, 0, put("a", "x"))
	want(t, c.Move(api.Move{Kind: api.MoveFuel, N: 1}), nothing)
	ask(t, c, 0, commit, 1)
	ups(t, c, true)
	want(t, take(t, c, 1), nothing)
	ups(t, c, false)
	there(t, c, make([]bool, shards)...)
	under(t, c, 0)
	return c
}

// TestFallInRequest: the drum goes down in the middle of a request: the node is down, with all its shards, and nothing is answered; of the request's entry is there behind it what Keep says, by areas.
func TestFallInRequest(t *testing.T) {
	const frame = layFrame
	for _, one := range []struct {
		isRenewed, isKept bool
		keep              []int
	}{
		{false, false, nil},
		{false, false, []int{}},
		{false, false, []int{0}},
		{false, false, []int{-1}},
		{false, false, []int{math.MinInt}},
		{false, false, []int{1}},
		{false, false, []int{frame - 1}},
		{false, true, []int{frame}},
		{false, true, []int{frame + 1}},
		{false, true, []int{math.MaxInt}},
		{false, true, []int{frame, 0, 0, 0, 0}},
		{false, false, []int{0, frame, frame, frame, frame}},
		{true, false, []int{frame}},
		{true, false, []int{frame, frame - 1, frame, frame}},
		{true, true, []int{0, frame}},
	} {
		for shards := 1; shards <= 3; shards++ { // a is on shard 0 of each
			c := laid(t, shards, one.isRenewed)
			want(t, c.Move(api.Move{Kind: api.MoveRise, Keep: one.keep}), nothing)
			ups(t, c, true)
			for n := range shards {
				isKept := n == 0 && one.isKept
				if l := c.Shard(n).Intents(); (len(l) == 1) != isKept {
					t.Errorf("%d shards, %+v: shard %d has %+v", shards, one, n, l)
				}
			}
			// The drum has no limit any more, and what wasn't answered can be asked again.
			want(t, c.Move(api.Move{Kind: api.MoveAgain}), nothing)
			x := take(t, c, 4)
			// By a stamp above the bound, {64 4095}: there the clock is now, and there the intent's Min was raised to.
			if x.Result.Kind != api.GotCommitted || x.Result.At != (api.Ts{P: 65}) {
				t.Errorf("%d shards, %+v: %+v", shards, one, x)
			}
		}
	}
}

// TestEachDrumFalls: all drums of a node fall with Keep, whichever of them are down; those of another node don't.
func TestEachDrumFalls(t *testing.T) {
	for _, keep := range []int{layFrame - 1, layFrame} {
		c := opened(t, 2, 6, 1, 10000)
		for n := range 6 {
			s := c.Shard(n)
			get := api.Request{Kind: api.AskGet, Start: api.Ts{P: 1}, Key: "k"}
			if r := s.Handle(0, get); r.Kind != api.SaidValue {
				t.Fatalf("%+v", r)
			}
			// Asked behind the cluster's back: so several drums of one node are down.
			want(t, c.Move(api.Move{Kind: api.MoveFuel, Shard: n, N: 1}), nothing)
			lay := api.Request{Kind: api.AskLay, By: api.Txn{N: 1}, Start: api.Ts{P: 1}, Key: "k", Writes: []api.Write{{Key: "k", Val: "x"}}}
			if r := s.Handle(0, lay); r.Err != api.ErrDown {
				t.Fatalf("%+v", r)
			}
		}
		want(t, c.Move(api.Move{Kind: api.MoveKill, Node: 1}), nothing)
		want(t, c.Move(api.Move{Kind: api.MoveRise, Node: 1, Keep: []int{keep}}), nothing)
		for n := range 6 {
			isKept := n%2 == 1 && keep == layFrame
			if l := c.Shard(n).Intents(); (len(l) == 1) != isKept {
				t.Errorf("keep %d: shard %d has %+v", keep, n, l)
			}
		}
		// Node 0's drums are down still, which is noticed when one of them is needed.
		ups(t, c, true, true)
		want(t, c.Move(api.Move{Kind: api.MoveRenew, Shard: 5}), nothing)
		want(t, c.Move(api.Move{Kind: api.MoveRenew, Shard: 4}), api.Shown{Err: api.ErrDown})
		ups(t, c, false, true)
		there(t, c, false, true, false, true, false, true)
	}
}

// TestFuel: a drum does so many steps more; below 0 there is no limit. What is told of a drum whose node is down is gone when it rises.
func TestFuel(t *testing.T) {
	c := opened(t, 2, 4, 1, 10000)
	fuel := func(shard, n int) {
		t.Helper()
		want(t, c.Move(api.Move{Kind: api.MoveFuel, Shard: shard, N: n}), nothing)
	}
	renew := func(shard int, err api.Errno) {
		t.Helper()
		want(t, c.Move(api.Move{Kind: api.MoveRenew, Shard: shard}), api.Shown{Err: err})
	}
	// A renewal has four steps: Lay, Write, Sync, Cut.
	fuel(0, 0)
	fuel(0, 4)
	renew(0, api.OK)
	fuel(0, 3)
	fuel(0, -1)
	renew(0, api.OK)
	fuel(0, 7)
	renew(0, api.OK)
	// No fuel is no fall: that comes with a step.
	fuel(1, 0)
	ups(t, c, true, true)
	there(t, c, true, true, true, true)
	renew(0, api.ErrDown)
	ups(t, c, false, true)
	there(t, c, false, true, false, true)
	for _, n := range []int{0, 1, 2} {
		fuel(0, n)
		fuel(2, n)
	}
	ups(t, c, false, true)
	want(t, c.Move(api.Move{Kind: api.MoveRise, Node: 0}), nothing)
	for range 3 {
		renew(0, api.OK)
		renew(2, api.OK)
	}
	// Shard 1 has no fuel still, as its node didn't fall.
	renew(3, api.OK)
	renew(1, api.ErrDown)
	ups(t, c, true, false)
}

// TestIdle: a client that has nothing to do sends nothing anew, and can't wait no longer.
func TestIdle(t *testing.T) {
	c := opened(t, 1, 2, 2, 10000)
	again := api.Move{Kind: api.MoveAgain, Client: 1}
	give := api.Move{Kind: api.MoveGive, Client: 1}
	idle := api.Shown{Client: 1, Result: api.Result{Kind: api.GotError, Err: api.ErrIdle}}
	want(t, c.Move(again), nothing)
	want(t, c.Move(give), idle)
	under(t, c, 0)
	do(t, c, 1, begin)
	idle.Result.By, idle.Result.Start = api.Txn{Client: 1, N: 1}, api.Ts{L: 1}
	want(t, c.Move(again), nothing)
	want(t, c.Move(give), idle)
	under(t, c, 0)
	do(t, c, 0, begin)
	ask(t, c, 0, get("a"), 1)
	want(t, c.Move(again), nothing)
	want(t, c.Move(give), idle)
	under(t, c, 1)
	if _, ok := c.Start(1); !ok {
		t.Error("it goes on")
	}
}

// TestAgainAndGive: what isn't answered is sent once more, and more often; a client that waits no longer hears no answer.
func TestAgainAndGive(t *testing.T) {
	c := opened(t, 1, 2, 2, 10000)
	do(t, c, 1, begin)
	ask(t, c, 1, scan("", "", 3), 2)
	want(t, c.Move(api.Move{Kind: api.MoveAgain, Client: 1}), nothing)
	want(t, c.Move(api.Move{Kind: api.MoveAgain, Client: 0}), nothing)
	under(t, c, 4)
	want(t, c.Move(api.Move{Kind: api.MoveGive, Client: 1}), api.Shown{Client: 1, Result: api.Result{Kind: api.GotError, Err: api.ErrLost, By: api.Txn{Client: 1, N: 1}, Start: api.Ts{L: 1}}})
	want(t, take(t, c, 8), nothing)
	if !c.Quiet() {
		t.Error("not quiet")
	}
	do(t, c, 1, put("a", "x"), put("b", "y"))
	ask(t, c, 1, commit, 2)
	// Given up ahead of Decide, it leaves two chores behind its two letters.
	want(t, c.Move(api.Move{Kind: api.MoveGive, Client: 1}), api.Shown{Client: 1, Result: api.Result{Kind: api.GotAborted, Err: api.ErrLost, By: api.Txn{Client: 1, N: 1}, Start: api.Ts{L: 1}}})
	under(t, c, 4)
	if c.Quiet() {
		t.Error("quiet, though letters are under way")
	}
	want(t, take(t, c, 8), nothing)
	if !c.Quiet() || len(c.Shard(0).Intents())+len(c.Shard(1).Intents()) > 0 {
		t.Error("intents are left")
	}
}

// TestSafe: the safe time is the least start and clock of all that run and are up, and never goes back; all shards are told it, those that are down too.
func TestSafe(t *testing.T) {
	c := opened(t, 2, 4, 3, 10000)
	safe := func(least api.Ts) {
		t.Helper()
		before := c.Letters()
		want(t, c.Move(api.Move{Kind: api.MoveSafe}), nothing)
		if c.Safe() != least {
			t.Fatalf("safe %v, want %v", c.Safe(), least)
		}
		under(t, c, before+4)
	}
	arrive := func() {
		t.Helper()
		for c.Letters() > 0 {
			want(t, take(t, c, 1), nothing)
		}
	}
	clocks := func(phys uint64) {
		for n := range 3 {
			c.Move(api.Move{Kind: api.MoveWatch, Client: n, Phys: phys})
			c.Move(api.Move{Kind: api.MoveClock, Node: n % 2, Phys: phys})
		}
	}
	read := func(client int, letters int) {
		t.Helper()
		ask(t, c, client, scan("", "", 9), letters)
		for c.Letters() > 0 {
			c.Move(api.Move{Kind: api.MoveTake})
		}
	}
	// No transaction, and no clock that shows anything.
	safe(api.Ts{})
	arrive()
	clocks(10)
	do(t, c, 0, begin)
	safe(api.Ts{})
	arrive()
	read(0, 4)
	// One transaction, and four clocks at its start.
	safe(api.Ts{P: 10})
	arrive()
	for n := range 4 {
		if s := c.Shard(n); s.Safe() != (api.Ts{P: 10}) {
			t.Errorf("shard %d: %v", n, s.Safe())
		}
	}
	// Several: the least counts, whichever client has it.
	clocks(20)
	do(t, c, 1, begin)
	clocks(30)
	do(t, c, 2, begin)
	read(2, 4)
	safe(api.Ts{P: 10})
	arrive()
	do(t, c, 0, abort)
	safe(api.Ts{P: 20})
	arrive()
	do(t, c, 1, abort)
	// Client 2's start is {30 0}, as all clocks are.
	safe(api.Ts{P: 30})
	arrive()
	do(t, c, 2, abort)
	safe(api.Ts{P: 30})
	arrive()
	// It never goes back, though a transaction begins below it.
	clocks(15)
	do(t, c, 0, begin)
	safe(api.Ts{P: 30})
	arrive()
	do(t, c, 0, abort)
	// A clock that is behind counts, as long as its node is up.
	clocks(50)
	do(t, c, 0, begin)
	ask(t, c, 0, get("d"), 1)
	take(t, c, 2)
	ask(t, c, 0, get("b"), 1)
	take(t, c, 2)
	do(t, c, 0, abort)
	safe(api.Ts{P: 30})
	arrive()
	want(t, c.Move(api.Move{Kind: api.MoveKill, Node: 0}), nothing)
	safe(api.Ts{P: 50})
	arrive()
	for n, want := range []api.Ts{{}, {P: 50}, {}, {P: 50}} {
		if have := c.Shard(n).Safe(); have != want {
			t.Errorf("shard %d: %v, want %v", n, have, want)
		}
	}
	// With all nodes down transactions count alone; without any nothing does.
	want(t, c.Move(api.Move{Kind: api.MoveKill, Node: 1}), nothing)
	safe(api.Ts{P: 50})
	clocks(70)
	do(t, c, 1, begin)
	safe(api.Ts{P: 70})
	under(t, c, 8)
	// Those that rise meanwhile are told what is under way.
	want(t, c.Move(api.Move{Kind: api.MoveRise, Node: 0}), nothing)
	arrive()
	for n, want := range []api.Ts{{P: 70}, {}, {P: 70}, {}} {
		if have := c.Shard(n).Safe(); have != want {
			t.Errorf("shard %d: %v, want %v", n, have, want)
		}
	}
}

// TestSafeIsNobodys: what is told of the safe time is answered, and no client takes that for an answer to what it asked.
func TestSafeIsNobodys(t *testing.T) {
	c := opened(t, 1, 1, 1, 10000)
	do(t, c, 0, begin, put("a", "x"))
	want(t, c.Move(api.Move{Kind: api.MoveSafe}), nothing)
	ask(t, c, 0, commit, 1)
	want(t, take(t, c, 1), nothing)
	under(t, c, 2)
	want(t, c.Move(api.Move{Kind: api.MoveTake, Raw: 1}), nothing)
	under(t, c, 1)
	// Lay, Laid, Decide, Committed.
	if x := take(t, c, 4); x.Result.Kind != api.GotCommitted {
		t.Errorf("%+v", x)
	}
}

// TestRenew: a shard's log begins anew, and tells the same; of a node that is down nothing is shown; where the drum falls meanwhile, its node is down.
func TestRenew(t *testing.T) {
	c := opened(t, 2, 4, 1, 10000)
	do(t, c, 0, begin, put("a", "x"), put("b", "y"))
	ask(t, c, 0, commit, 2)
	for range 10 {
		c.Move(api.Move{Kind: api.MoveTake})
	}
	before := []string{inside(c.Shard(0)), inside(c.Shard(1)), inside(c.Shard(2)), inside(c.Shard(3))}
	renew := func(shard int, err api.Errno) {
		t.Helper()
		want(t, c.Move(api.Move{Kind: api.MoveRenew, Shard: shard}), api.Shown{Err: err})
	}
	for n := range 4 {
		renew(n, api.OK)
		if after := inside(c.Shard(n)); after != before[n] {
			t.Errorf("shard %d: %s, was %s", n, after, before[n])
		}
	}
	ups(t, c, true, true)
	under(t, c, 0)
	items := tell(c.Shard(2).Items())
	// With so many steps left: the log goes on in the old area, or, behind the third, in the new one.
	for steps := range 4 {
		want(t, c.Move(api.Move{Kind: api.MoveFuel, Shard: 2, N: steps}), nothing)
		renew(2, api.ErrDown)
		ups(t, c, false, true)
		there(t, c, false, true, false, true)
		renew(0, api.OK)
		renew(2, api.OK)
		ups(t, c, false, true)
		want(t, c.Move(api.Move{Kind: api.MoveRise, Node: 0, Keep: []int{3, 3, 3, 3}}), nothing)
		there(t, c, true, true, true, true)
		if after := tell(c.Shard(2).Items()); after != items {
			t.Errorf("%d steps: %s, was %s", steps, after, items)
		}
	}
}

// TestRenewMakesRoom: of a small drum the room lasts for as long as its log is renewed.
func TestRenewMakesRoom(t *testing.T) {
	for _, isRenewed := range []bool{false, true} {
		c := opened(t, 1, 1, 1, 1000)
		times := 0
		for range 100 {
			do(t, c, 0, begin, put("a", long(20)))
			ask(t, c, 0, commit, 1)
			if x := take(t, c, 4); x.Result.Kind != api.GotCommitted {
				break
			}
			times++
			if isRenewed {
				// The safe time lets all versions but the newest go.
				want(t, c.Move(api.Move{Kind: api.MoveSafe}), nothing)
				want(t, take(t, c, 6), nothing)
				want(t, c.Move(api.Move{Kind: api.MoveRenew}), nothing)
			}
			for c.Letters() > 0 {
				take(t, c, 1)
			}
		}
		if (times == 100) != isRenewed || times < 5 {
			t.Errorf("renewed %v: %d transactions", isRenewed, times)
		}
	}
}

// TestNil: a cluster that isn't there.
func TestNil(t *testing.T) {
	var c *cluster.Cluster
	for kind := -1; kind < 16; kind++ {
		want(t, c.Move(api.Move{Kind: kind, Op: begin}), api.Shown{Err: api.ErrArg})
	}
	for _, n := range []int{-1, 0, 1, math.MinInt, math.MaxInt} {
		start, ok := c.Start(n)
		if c.Shard(n) != nil || c.Up(n) || start != (api.Ts{}) || ok {
			t.Error(n)
		}
	}
	if c.Quiet() || c.Letters() != 0 || c.Safe() != (api.Ts{}) {
		t.Error("there is something")
	}
	// What one answers that New didn't make isn't said, but it answers.
	for kind := -1; kind < 16; kind++ {
		new(cluster.Cluster).Move(api.Move{Kind: kind})
	}
}

// TestNumbers: of numbers that aren't there nothing is answered.
func TestNumbers(t *testing.T) {
	c := opened(t, 2, 3, 4, 10000)
	for n := range 4 {
		do(t, c, n, begin)
	}
	for _, n := range []int{-1, 4, 5, 8, 1 << 32, math.MinInt, math.MaxInt} {
		start, ok := c.Start(n)
		if c.Shard(n) != nil || c.Up(n) || start != (api.Ts{}) || ok {
			t.Error(n)
		}
	}
	ups(t, c, true, true, false, false)
	there(t, c, true, true, true, false)
	if start, ok := c.Start(3); !ok || start != (api.Ts{L: 1}) {
		t.Error(start, ok)
	}
}

// TestMemory: the list that is handed in is as it was, with the room behind it, and isn't kept; a list that is answered isn't either.
func TestMemory(t *testing.T) {
	room := []int{layFrame, 7, 8, 9, 10, 11}
	c := laid(t, 2, false)
	want(t, c.Move(api.Move{Kind: api.MoveRise, Keep: room[:1]}), nothing)
	if tell(room) != "[22 7 8 9 10 11]" {
		t.Error(room)
	}
	room[0] = 0
	if l := c.Shard(0).Intents(); len(l) != 1 {
		t.Errorf("%+v", l)
	}
	c.Move(api.Move{Kind: api.MoveAgain})
	take(t, c, 4)
	for c.Letters() > 0 {
		take(t, c, 1)
	}
	read := func() []api.Pair {
		t.Helper()
		do(t, c, 0, begin)
		ask(t, c, 0, scan("", "", 9), 2)
		l := take(t, c, 4).Result.Pairs
		if tell(l) != "[{Key:a Val:x}]" {
			t.Fatalf("%+v", l)
		}
		do(t, c, 0, abort)
		return l
	}
	l := read()
	l[0] = api.Pair{Key: "z", Val: "z"}
	read()
}
