package cluster_test

import (
	"math"
	"math/rand"
	"testing"

	"dovecote/api"
	"dovecote/cluster"
)

// TestWalks: P19.1: long rows of moves by chance, held against the second telling.
func TestWalks(t *testing.T) {
	kinds := map[int]int{}
	errors := map[api.Errno]int{}
	downs, refused := 0, 0
	for seed := range int64(1500) {
		r := newChance(seed)
		cfg := r.Config
		c, err := cluster.New(cfg)
		if err != api.OK {
			t.Fatal(cfg, err)
		}
		p := newPlain(t, cfg)
		for i := range 500 {
			m := r.move(i, func(n int) bool { _, ok := p.sessions[n].Start(); return ok })
			have, want := c.Move(m), p.move(m)
			if tell(have) != tell(want) {
				t.Fatalf("seed %d, %+v, move %d %+v:\n%+v\nwant\n%+v", seed, cfg, i, m, have, want)
			}
			if err := p.same(c); err != nil {
				t.Fatalf("seed %d, %+v, behind move %d %+v: %v", seed, cfg, i, m, err)
			}
			if i%25 == 24 {
				if err := p.sameShards(c); err != nil {
					t.Fatalf("seed %d, %+v, behind move %d %+v: %v", seed, cfg, i, m, err)
				}
			}
			r.heed(m, have)
			kinds[have.Result.Kind]++
			if have.Err != api.OK {
				refused++
			}
			if have.Result.Kind == api.GotAborted || have.Result.Kind == api.GotError {
				errors[have.Result.Err]++
			}
			if m.Kind == api.MoveTake && !c.Up(m.Node) {
				downs++
			}
		}
	}
	t.Log(kinds, errors, downs, refused)
	// What never comes about is not tried by this.
	for kind := range 8 {
		if kinds[kind] < 50 {
			t.Errorf("result %d came %d times", kind, kinds[kind])
		}
	}
	for _, err := range []api.Errno{api.ErrFull, api.ErrSkew, api.ErrOver, api.ErrOld, api.ErrBusy, api.ErrNone, api.ErrLost, api.ErrIdle} {
		if errors[err] < 10 {
			t.Errorf("error %d came %d times", err, errors[err])
		}
	}
}

// TestSameMoves: P19.2 and P0.5: the same moves show the same in a new cluster, be they made in one row, or in turn with those of other clusters.
func TestSameMoves(t *testing.T) {
	for seed := range int64(100) {
		r := newChance(seed)
		first, second, other := fresh(t, r.Config), fresh(t, r.Config), fresh(t, r.Config)
		var moves []api.Move
		var shown []string
		for i := range 400 {
			m := r.move(i, func(n int) bool { _, ok := first.Start(n); return ok })
			x := first.Move(m)
			r.heed(m, x)
			moves = append(moves, m)
			shown = append(shown, tell(x))
			// Other moves of another cluster, meanwhile.
			other.Move(r.move(i, func(int) bool { return i%2 == 0 }))
			if x := tell(second.Move(m)); x != shown[i] {
				t.Fatalf("seed %d, move %d %+v: %s, was %s", seed, i, m, x, shown[i])
			}
		}
		third := fresh(t, r.Config)
		for i, m := range moves {
			if x := tell(third.Move(m)); x != shown[i] {
				t.Fatalf("seed %d, move %d %+v: %s, was %s", seed, i, m, x, shown[i])
			}
		}
		want := outline(first, r.Config)
		for _, c := range []*cluster.Cluster{second, third} {
			if have := outline(c, r.Config); have != want {
				t.Fatalf("seed %d: %s\nwant %s", seed, have, want)
			}
		}
	}
}

// fresh answers a new cluster of a Config that can be.
func fresh(t *testing.T, cfg api.Config) *cluster.Cluster {
	t.Helper()
	return opened(t, cfg.Nodes, cfg.Shards, cfg.Clients, cfg.Room)
}

// TestAnything: P0: moves with whatever numbers and texts; each ends, and none panics.
func TestAnything(t *testing.T) {
	r := rand.New(rand.NewSource(19))
	numbers := []int{math.MinInt, -1 << 32, -9, -1, 0, 0, 0, 1, 1, 2, 3, 4, 7, 8, 9, 200, 1 << 20, 1 << 32, math.MaxInt}
	readings := []uint64{0, 1, 10, 999, 1<<48 - 1, 1 << 48, 1<<48 + 1, 1 << 63, math.MaxUint64}
	texts := []string{"", "a", "b", "\x00", "\xff", long(31), long(32), long(33), long(256), long(257), long(70000)}
	for range 300 {
		c, err := cluster.New(api.Config{Nodes: pick(r, 1, 2, 4, pick(r, numbers...)), Shards: pick(r, 1, 3, 8, pick(r, numbers...)), Clients: pick(r, 1, 2, 4, pick(r, numbers...)), Room: pick(r, 0, 20, 90, 1000, api.MaxRoom)})
		if (c == nil) != (err == api.ErrArg) || (c != nil) != (err == api.OK) {
			t.Fatal(c, err)
		}
		for range 200 {
			n := pick(r, numbers...)
			m := api.Move{Kind: 1 + r.Intn(13), Client: pick(r, numbers...), Node: pick(r, numbers...), Shard: pick(r, numbers...), Raw: n, N: n, Phys: pick(r, readings...)}
			m.Op = api.Op{Kind: r.Intn(9), Key: pick(r, texts...), Val: pick(r, texts...), To: pick(r, texts...), Limit: pick(r, numbers...)}
			for range r.Intn(6) {
				m.Keep = append(m.Keep, pick(r, numbers...))
			}
			x := c.Move(m)
			if x.Err != api.OK && (x.Client != 0 || tell(x.Result) != tell(api.Result{})) {
				t.Fatalf("%+v: %+v", m, x)
			}
			c.Shard(n)
			c.Up(n)
			c.Start(n)
			c.Quiet()
			if l := c.Letters(); l < 0 || l > api.MaxLetters {
				t.Fatal(l)
			}
		}
	}
}
