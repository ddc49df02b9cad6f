package cluster_test

import (
	"testing"

	"dovecote/api"
)

// step lets a client act, or a letter arrive.
func (w *world) step() {
	n := w.Intn(w.Clients)
	if !w.isBusy[n] && w.Letters() < 100 && w.Intn(2) == 0 {
		_, runs := w.Start(n)
		w.do(n, chance{Rand: w.Rand}.soundOp(runs))
	} else {
		w.take(w.Int())
	}
}

// befall lets something happen that nobody wishes for.
func (w *world) befall() {
	m := api.Move{Client: w.Intn(w.Clients), Node: w.Intn(w.Nodes), Shard: w.Intn(w.Shards), Raw: w.Int(), Keep: chance{Rand: w.Rand}.keep()}
	switch w.Intn(12) {
	case 0:
		m.Kind = api.MoveLose
	case 1, 2:
		m.Kind = api.MoveDouble
	case 3:
		m.Kind = api.MoveKill
	case 4, 5, 6:
		m.Kind = api.MoveRise
	case 7:
		m.Kind, m.N = api.MoveFuel, w.Intn(8)
	case 8:
		m.Kind = api.MoveAgain
	case 9:
		if !w.isBusy[m.Client] {
			return
		}
		m.Kind = api.MoveGive
	case 10:
		m.Kind = api.MoveRenew
	case 11:
		m.Kind, m.Phys = api.MoveClock, w.latest-min(w.latest, uint64(w.Intn(1500)))
		if w.Intn(2) == 0 {
			m.Kind = api.MoveWatch
		}
	}
	w.move(m)
}

// tick lets the clocks go on, each for itself, by no more than some.
func (w *world) tick(some int) {
	phys := w.latest + uint64(w.Intn(some))
	for n := range w.Nodes {
		w.move(api.Move{Kind: api.MoveClock, Node: n, Phys: phys - min(phys, uint64(w.Intn(some)))})
	}
	for n := range w.Clients {
		w.move(api.Move{Kind: api.MoveWatch, Client: n, Phys: phys - min(phys, uint64(w.Intn(some)))})
	}
}

// sizes answers a Config of a seed's.
func sizes(seed int64) api.Config {
	n := int(seed)
	return api.Config{Nodes: 1 + n%4, Shards: 1 + n/3%8, Clients: 1 + n/2%4, Room: api.MaxRoom}
}

// TestWorld: P0.1, P0.2 and P0.4: whatever befalls a cluster, what was read and told is true, and when nothing befalls it any more, it settles.
func TestWorld(t *testing.T) {
	kinds := map[int]int{}
	pruned := 0
	for seed := range int64(1500) {
		w := newWorld(t, seed, sizes(seed))
		w.clocks(10)
		for range 400 {
			w.step()
			if w.Intn(6) == 0 {
				w.befall()
			}
			if w.Intn(25) == 0 {
				w.move(api.Move{Kind: api.MoveSafe})
			}
			if w.Intn(15) == 0 {
				w.tick(50)
			}
		}
		w.check()
		w.settle()
		w.check()
		w.checkWhole()
		for _, f := range w.fates {
			kinds[f.kind]++
		}
		for _, r := range w.refusals {
			kinds[r.Kind]++
		}
		pruned += w.missing()
	}
	t.Log(kinds, pruned)
	for _, kind := range []int{api.GotCommitted, api.GotAborted, api.GotUnknown, api.GotError} {
		if kinds[kind] < 100 {
			t.Errorf("result %d came %d times", kind, kinds[kind])
		}
	}
	if pruned < 100 {
		t.Errorf("%d versions were pruned", pruned)
	}
}

// TestNarrow: P0.1 and P0.2 on drums that have hardly room: much is refused, and what was told is true still.
func TestNarrow(t *testing.T) {
	full, committed := 0, 0
	for seed := range int64(600) {
		cfg := sizes(seed)
		cfg.Room = 60 + int(seed)*7%1500
		w := newWorld(t, seed, cfg)
		w.clocks(10)
		for range 300 {
			w.step()
			if w.Intn(10) == 0 {
				w.befall()
			}
			if w.Intn(15) == 0 {
				w.move(api.Move{Kind: api.MoveSafe})
			}
			if w.Intn(15) == 0 {
				w.tick(50)
			}
		}
		w.check()
		w.calm()
		for range 300 {
			w.take(w.Int())
		}
		w.check()
		for _, r := range w.refusals {
			if r.Err == api.ErrFull {
				full++
			}
		}
		for _, f := range w.fates {
			if f.kind == api.GotCommitted && len(f.writes) > 0 {
				committed++
			}
		}
	}
	if full < 100 || committed < 100 {
		t.Errorf("full %d times, %d committed", full, committed)
	}
}

// missing answers how many versions there have been that are no more.
func (w *world) missing() int {
	ever, now := 0, 0
	for _, all := range w.versions {
		ever += len(all)
	}
	for n := range w.Shards {
		for _, item := range w.Shard(n).Items() {
			now += len(item.Chain)
		}
	}
	return ever - now
}

// TestCalm: P0.3: letters turned about, clocks that differ by less than a lock's life, and the safe time: conflicts and old snapshots are all that anybody is refused for, and one client alone is refused nothing.
func TestCalm(t *testing.T) {
	errors := map[api.Errno]int{}
	for seed := range int64(600) {
		w := newWorld(t, seed, sizes(seed))
		w.clocks(10)
		for range 500 {
			w.step()
			if w.Intn(12) == 0 {
				w.tick(120)
			}
			if w.Intn(20) == 0 {
				w.move(api.Move{Kind: api.MoveSafe})
			}
			if w.Intn(40) == 0 {
				w.move(api.Move{Kind: api.MoveRenew, Shard: w.Intn(w.Shards)})
			}
		}
		for w.Letters() > 0 {
			w.take(w.Int())
		}
		if !w.Quiet() {
			w.fail("seed %d: somebody waits, though no letter was lost", seed)
		}
		w.check()
		w.settle()
		w.check()
		w.checkWhole()
		for _, r := range w.refusals {
			// Whose intents another one that waited too long has undone was in conflict with that.
			isConflict := r.Kind == api.GotAborted && (r.Err == api.ErrBusy || r.Err == api.ErrNone)
			if w.Clients == 1 || !isConflict && r.Err != api.ErrOld {
				w.fail("seed %d: refused: %+v", seed, r)
			}
			errors[r.Err]++
		}
	}
	t.Log(errors)
	for _, err := range []api.Errno{api.ErrBusy, api.ErrNone, api.ErrOld} {
		if errors[err] < 10 {
			t.Errorf("error %d came %d times", err, errors[err])
		}
	}
}
