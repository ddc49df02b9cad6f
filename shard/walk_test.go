package shard_test

import (
	"fmt"
	"math"
	"math/rand"
	"slices"
	"testing"

	"dovecote/api"
	"dovecote/shard"
)

// chance picks requests, most often such as come near to an edge of what a shard has.
type chance struct {
	*rand.Rand
	phys  uint64
	names uint32 // from which number on transactions are named
}

func pick[T any](c *chance, l ...T) T { return l[c.Intn(len(l))] }

// stamp answers one at, below or above one that plays a part in p.
func (c *chance) stamp(p *plain) api.Ts {
	l := []api.Ts{p.clock, p.safe, {P: c.phys}, {P: c.phys, L: 1}}
	for _, i := range p.intents {
		l = append(l, i.Min, i.Start)
	}
	for _, v := range p.versions {
		l = append(l, v.At)
	}
	switch c.Intn(60) {
	case 0:
		l = []api.Ts{none, p.bound}
	case 1:
		l = []api.Ts{{P: c.phys + maxSkew}, {P: c.phys + maxSkew + 1}}
	case 2:
		l = []api.Ts{{P: c.phys / 2}, {P: c.phys, L: maxLogic}, greatest}
	}
	u := pick(c, l...)
	n := num(stampOf(min(u.P*4096+uint64(u.L), num(greatest))))
	switch c.Intn(3) {
	case 0:
		n = max(n, 1) - 1
	case 1:
		n = min(n+1, num(greatest))
	}
	return stampOf(n)
}

func (c *chance) key() string { return pick(c, "a", "b", "c", "d", "a\x00", "b1") }

func (c *chance) txn() api.Txn {
	return api.Txn{Client: uint32(c.Intn(2)), N: c.names + uint32(c.Intn(5))}
}

func (c *chance) writes() []api.Write {
	var l []api.Write
	for n := range 1 + c.Intn(3) {
		w := api.Write{Key: c.key(), Val: fmt.Sprint("v", c.Intn(100), n)}
		if c.Intn(4) == 0 {
			w.Val, w.Dead = "", true
		}
		if !slices.ContainsFunc(l, func(o api.Write) bool { return o.Key == w.Key }) {
			l = append(l, w)
		}
	}
	return l
}

// request answers one of any kind.
func (c *chance) request(p *plain) api.Request {
	q := api.Request{
		Kind: pick(c, 1, 1, 2, 2, 3, 3, 3, 3, 4, 4, 4, 5, 5, 6, 7, 7, 8, 9, 9), By: c.txn(), Start: c.stamp(p), At: c.stamp(p),
		Key: c.key(), To: pick(c, "", "", c.key()), Limit: pick(c, 9, 1, 0, -1, 40), Parts: uint8(c.Intn(256)), Writes: c.writes(),
	}
	// Who is asked about has intents more often than not, and may commit.
	if len(p.intents) > 0 && c.Intn(2) == 0 {
		i := pick(c, p.intents...)
		q.By = i.By
		if c.Intn(2) == 0 {
			q.At = pick(c, i.Min, higher(i.Min, p.clock))
		}
	} else if q.Kind == api.AskDone && len(p.verdicts) > 0 {
		q.By = pick(c, p.verdicts...).By
	}
	for range c.Intn(3) {
		q.Skips = append(q.Skips, c.txn())
	}
	switch {
	case q.Kind == api.AskScan:
		q.Key = pick(c, "", c.key())
	case q.Kind == api.AskLay:
		q.Key = pick(c, q.Writes[0].Key, q.Writes[0].Key, q.Key, "elsewhere")
	case q.Kind == api.AskPush && c.Intn(3) == 0:
		q.At = none
	case q.Kind == api.AskSafe && c.Intn(3) > 0:
		q.At = pick(c, none, p.safe, next(p.safe))
	}
	switch c.Intn(200) {
	case 0:
		q.Kind = pick(c, 0, 10, -3)
	case 1:
		q.Start.P = maxPhys + 1
	case 2:
		q.At.L = maxLogic + 1
	case 3:
		q.Key, q.Writes = "", nil
	}
	return q
}

// turn lets the physical clock read something else, now and then.
func (c *chance) turn() {
	switch c.Intn(60) {
	case 0:
		c.phys += uint64(c.Intn(150))
	case 1:
		c.phys -= min(c.phys, uint64(c.Intn(50)))
	default:
		c.phys += uint64(c.Intn(2))
	}
	if c.Intn(8) == 0 {
		c.names++
	}
}

// reading answers what the physical clock reads, seldom something odd.
func (c *chance) reading() uint64 {
	if c.Intn(150) == 0 {
		return pick(c, 0, maxPhys, maxPhys+1, math.MaxUint64, c.phys+200)
	}
	return c.phys
}

// upset asks, and lets the drum fall now and then, also in the middle of that, and the log be renewed.
func (c *chance) upset(x *pair, ask func()) {
	switch c.Intn(25) {
	case 0:
		x.fuel(c.Intn(6))
		for range 1 + c.Intn(4) {
			ask()
		}
		x.fall(pick(c, 0, 1, 9, c.Intn(60), math.MaxInt))
	case 1:
		x.fuel(c.Intn(6))
		x.renew()
		x.fall(pick(c, 0, 9, c.Intn(600), math.MaxInt))
	case 2:
		x.fall(0)
	case 3:
		x.renew()
	default:
		ask()
	}
}

// TestByChance: long lists of requests, falls and renewals, each answer and all that the shard has held against the plain one; and each of the table's answers is among them.
func TestByChance(t *testing.T) {
	seen := map[string]int{}
	for seed := range int64(800) {
		c := &chance{Rand: rand.New(rand.NewSource(seed)), phys: pick(&chance{Rand: rand.New(rand.NewSource(seed))}, 0, 10, 5000, maxPhys-900, maxPhys-70)}
		x := begin(t, pick(c, wide, wide, wide, 200, 300, 500, 700))
		for range 250 {
			c.turn()
			c.upset(x, func() {
				q := c.request(x.p)
				r := x.ask(c.reading(), q)
				seen[fmt.Sprint(q.Kind, " ", r.Kind, " ", int(r.Err), " ", r.Found)]++
			})
		}
	}
	for kind, answers := range [][][2]int{
		{},
		{{0, 1}, {0, 11}, {0, 30}, {0, 21}, {0, 10}, {3, 0}, {1, 0}},                                   // Get
		{{0, 1}, {0, 11}, {0, 30}, {0, 21}, {0, 10}, {3, 0}, {2, 0}},                                   // Scan
		{{0, 1}, {0, 11}, {0, 30}, {5, 0}, {6, 0}, {4, 0}, {3, 0}, {10, 0}, {0, 21}, {0, 20}, {0, 10}}, // Lay
		{{0, 1}, {0, 11}, {5, 0}, {6, 0}, {7, 0}, {0, 21}, {0, 10}},                                    // Decide
		{{0, 1}, {0, 11}, {9, 0}, {0, 21}, {0, 10}},                                                    // Apply
		{{0, 1}, {0, 11}, {5, 0}, {6, 0}, {0, 10}},                                                     // Undo
		{{0, 1}, {0, 11}, {5, 0}, {6, 0}, {8, 0}, {0, 20}, {0, 21}, {0, 10}},                           // Push
		{{0, 1}, {0, 11}, {9, 0}, {0, 10}},                                                             // Safe
		{{0, 1}, {0, 11}, {9, 0}, {0, 10}},                                                             // Done
	} {
		for _, a := range answers {
			if seen[fmt.Sprint(kind, " ", a[0], " ", a[1], " false")] < 3 {
				t.Errorf("a request of Kind %d was answered so seldom with %v: %v", kind, a, seen)
			}
		}
	}
	if seen["1 1 0 true"] < 100 {
		t.Error("no value was found often enough")
	}
}

// TestEachOnEach: in many states each request of a great table, held against the plain one.
func TestEachOnEach(t *testing.T) {
	moves := story()
	for n := range len(moves) + 1 {
		x := behind(t, wide, moves[:n])
		c := &chance{Rand: rand.New(rand.NewSource(int64(n)))}
		for kind := 1; kind <= 9; kind++ {
			for _, by := range []api.Txn{t0, t1, t2, t3, t4, txn(1), txn(2), txn(3), txn(4)} {
				for range 12 {
					c.phys = pick(c, uint64(5), 300, 401, 1400)
					q := c.request(x.p)
					q.Kind, q.By = kind, by
					held := x.p.held
					told := toldBy(x.s)
					x.ask(c.phys, q)
					if x.p.held != held || toldBy(x.s) != told {
						x = behind(t, wide, moves[:n])
					}
				}
			}
		}
	}
}

// P14.3: what a reader was told stays true.

// notice is what a reader was told: at a stamp nothing more comes to the keys of a range, but by those that it passes over.
type notice struct {
	q        api.Request
	from, to string
	had      map[had]int
	reply    api.Reply
}

func (n *notice) isAbout(key string) bool {
	return key >= n.from && (n.to == "" || key < n.to)
}

func (n *notice) passes(by api.Txn) bool { return by == n.q.By || slices.Contains(n.q.Skips, by) }

// versionsOf answers all versions of a shard, with their keys.
func versionsOf(s *shard.Shard) []had {
	var l []had
	for _, i := range s.Items() {
		for _, v := range i.Chain {
			l = append(l, had{i.Key, v})
		}
	}
	return l
}

// heed answers what a reply tells a reader; false, if it tells nothing.
func heed(s *shard.Shard, q api.Request, r api.Reply) (*notice, bool) {
	n := &notice{q: q, from: q.Key, to: q.To, had: map[had]int{}, reply: r}
	if q.Kind == api.AskGet {
		n.to = q.Key + "\x00"
	}
	for _, v := range versionsOf(s) {
		n.had[v] = 1
	}
	return n, r.Kind == api.SaidValue || r.Kind == api.SaidPairs
}

// keeps checks that no version has come that the reader should have been told.
func (n *notice) keeps(t *testing.T, s *shard.Shard) {
	t.Helper()
	for _, v := range versionsOf(s) {
		if n.isAbout(v.key) && num(v.At) <= num(n.q.Start) && n.had[v] == 0 && !n.passes(v.By) {
			t.Fatalf("behind %+v, answered with %+v, came %+v", n.q, n.reply, v)
		}
	}
}

// again checks that the same reader is told the same, if it isn't refused, and none that it passed over has written.
func (n *notice) again(t *testing.T, x *pair, phys uint64) {
	t.Helper()
	for _, v := range versionsOf(x.s) {
		if n.isAbout(v.key) && num(v.At) <= num(n.q.Start) && n.passes(v.By) && n.had[v] == 0 {
			return
		}
	}
	r := x.ask(phys, n.q)
	if r.Kind != n.reply.Kind {
		if r.Kind == api.SaidError && (r.Err == api.ErrOld || r.Err == api.ErrSkew || r.Err == api.ErrFull) {
			return
		}
		t.Fatalf("%+v was answered with %+v, and then with %+v", n.q, n.reply, r)
	}
	r.Now = n.reply.Now
	if !same(r, n.reply) {
		t.Fatalf("%+v was answered with %+v, and then with %+v", n.q, n.reply, r)
	}
}

// TestToldStaysTrue: readers' notices against whatever is asked behind them, falls and renewals included.
func TestToldStaysTrue(t *testing.T) {
	read, skipped := 0, 0
	for seed := range int64(300) {
		c := &chance{Rand: rand.New(rand.NewSource(1000 + seed)), phys: 100}
		x := begin(t, wide)
		var notices []*notice
		promised := map[api.Txn]api.Ts{} // above all that those may skip who were told Pushed
		for range 200 {
			c.turn()
			c.upset(x, func() {
				phys, q := c.reading(), c.request(x.p)
				r := x.ask(phys, q)
				if q.Kind == api.AskGet || q.Kind == api.AskScan {
					if n, ok := heed(x.s, q, r); ok {
						notices = append(notices, n)
						read++
					}
				}
				if r.Kind == api.SaidPushed {
					promised[q.By] = higher(promised[q.By], r.At)
				}
			})
			for _, n := range notices {
				n.keeps(t, x.s)
			}
			for _, v := range versionsOf(x.s) {
				if least, ok := promised[v.By]; ok {
					skipped++
					if num(v.At) < num(least) {
						t.Fatalf("%v was pushed to %v, and committed by %v", v.By, least, v.At)
					}
				}
			}
			if len(notices) > 0 && c.Intn(4) == 0 {
				pick(c, notices...).again(t, x, c.phys)
			}
		}
	}
	if read < 1000 || skipped < 1000 {
		t.Errorf("%d reads, %d versions of those who were pushed: too few", read, skipped)
	}
}

// TestToldBehindEachFall: a reader at each edge of clock and bound, then a fall, and then a writer that tries to come below it.
func TestToldBehindEachFall(t *testing.T) {
	for _, when := range []api.Ts{at(5), at(5, 1), at(5, 2), at(69), at(69, maxLogic), at(70), at(133, maxLogic), at(134), at(900), at(1005)} {
		for falls := range 3 {
			x := begin(t, wide)
			x.ask(5, lay(t1, at(4), "a", "a", "b"))
			pushed := x.ask(5, push(t1, at(4), when))
			if r := x.ask(5, get(when, "a")); r.Kind != api.SaidValue {
				t.Fatalf("%+v", r)
			}
			x.ask(5, skip(scan(when, "", "", 9), t1))
			for range falls {
				x.fall(0)
			}
			for _, by := range []api.Txn{t1, t2} {
				if by == t2 {
					x.ask(0, lay(t2, none, "c", "c"))
				}
				for _, u := range []api.Ts{at(4), at(5), prev(when), when} {
					if r := x.ask(5, decide(by, u)); r.Kind != api.SaidLow || num(r.At) <= num(when) {
						t.Fatalf("%v commits by %v: %+v", by, u, r)
					}
				}
				if by == t1 && falls == 0 {
					x.expect(5, decide(t1, pushed.At), committed(pushed.At), pushed.At)
				}
			}
		}
	}
}

// P14.4: a transaction that is Committed stays so, by that stamp; one that is Undone has no version here, ever.

// fairly answers a request of transactions that keep to one start, one primary and their own writes.
func (c *chance) fairly(p *plain, plans map[api.Txn]api.Request) api.Request {
	q := c.request(p)
	plan, ok := plans[q.By]
	if !ok {
		plan = api.Request{Start: api.Ts{P: c.phys - min(c.phys, uint64(c.Intn(4)))}, Key: pick(c, c.key(), "elsewhere"), Writes: c.writes()}
		if plan.Key != "elsewhere" {
			plan.Key = plan.Writes[0].Key
		}
		plans[q.By] = plan
	}
	if q.Kind != api.AskGet && q.Kind != api.AskScan {
		q.Start = plan.Start
	}
	if q.Kind == api.AskLay {
		q.Key, q.Writes = plan.Key, plan.Writes
	}
	return q
}

// TestFates: each transaction has one, whatever is asked, falls and renewals included.
func TestFates(t *testing.T) {
	ends := map[int]int{}
	for seed := range int64(400) {
		c := &chance{Rand: rand.New(rand.NewSource(2000 + seed)), phys: 100}
		x := begin(t, pick(c, wide, wide, 2000))
		plans := map[api.Txn]api.Request{}
		stamps := map[api.Txn]api.Ts{}
		isUndone := map[api.Txn]int{}
		commit := func(by api.Txn, at api.Ts) {
			if was, ok := stamps[by]; ok && was != at || isUndone[by] > 0 {
				t.Fatalf("%v is committed by %v, was by %v, or undone: %d", by, at, was, isUndone[by])
			}
			stamps[by] = at
		}
		for range 250 {
			c.turn()
			c.upset(x, func() {
				q := c.fairly(x.p, plans)
				r := x.ask(c.reading(), q)
				isKnown := slices.ContainsFunc(x.s.Verdicts(), func(v api.Verdict) bool { return v.By == q.By })
				switch {
				case r.Kind == api.SaidCommitted:
					commit(q.By, r.At)
					ends[r.Kind]++
				case r.Kind == api.SaidUndone && (isKnown || q.Kind != api.AskDecide):
					// Of one that committed this may be said when nobody can lay it, or read what it replaced.
					if _, ok := stamps[q.By]; ok && num(plans[q.By].Start) >= num(x.s.Safe()) {
						t.Fatalf("%v was committed, and is undone: %+v", q.By, q)
					} else if !ok {
						isUndone[q.By]++
						ends[r.Kind]++
					}
				}
			})
			for _, v := range versionsOf(x.s) {
				commit(v.By, v.At)
			}
			for _, v := range x.s.Verdicts() {
				if v.At != none {
					commit(v.By, v.At)
				} else if _, ok := stamps[v.By]; ok {
					t.Fatalf("%v was committed, and has the verdict that it is undone", v.By)
				}
			}
		}
	}
	if ends[api.SaidCommitted] < 500 || ends[api.SaidUndone] < 500 {
		t.Errorf("fates: %v", ends)
	}
}

// TestLateLay: a Lay that arrives again behind its transaction's end lays nothing.
func TestLateLay(t *testing.T) {
	for _, end := range []api.Request{decide(t1, at(9)), undo(t1, at(5)), push(t1, at(5), none)} {
		for _, falls := range []bool{false, true} {
			x := begin(t, wide)
			q := lay(t1, at(5), "a", "a", "b")
			x.ask(5, q)
			first := x.ask(200, end)
			for range 3 {
				x.idle(200, q, first)
				if falls {
					x.fall(0)
					x.renew()
				}
			}
			x.ask(200, done(t1))
			x.ask(200, safe(at(8)))
			x.idle(200, q, refused(api.ErrOld))
		}
	}
	// Undone ahead of its Lay, which was under way.
	for _, ahead := range []api.Request{undo(t1, at(5)), push(t1, at(5), at(7))} {
		x := begin(t, wide)
		x.expect(5, ahead, undone(), none)
		x.idle(5, lay(t1, at(5), "a", "a"), undone())
		x.fall(0)
		x.idle(5, lay(t1, at(5), "a", "a"), undone())
		x.idle(5, decide(t1, at(9)), undone())
		x.idle(5, apply(t1, at(9)), fine())
	}
}
