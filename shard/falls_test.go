package shard_test

import (
	"fmt"
	"math"
	"slices"
	"strings"
	"testing"

	"dovecote/api"
	"dovecote/drum"
	"dovecote/entry"
	"dovecote/log"
	"dovecote/shard"
)

// P14.2: behind any fall of the drum Open gives the shard as it was, but for its clock and the intents' Min; a request that was cut off by it was logged, or not.

// move is a request, or a renewal.
type move struct {
	phys    uint64
	q       api.Request
	isRenew bool
}

// do makes a move, and answers its error.
func (x *pair) do(m move) api.Errno {
	x.t.Helper()
	if m.isRenew {
		return x.renew()
	}
	return x.ask(m.phys, m.q).Err
}

// story answers moves that log all kinds of entries, one, two and three of them at a time, and none.
func story() []move {
	ask := func(phys uint64, q api.Request) move { return move{phys: phys, q: q} }
	renew := move{isRenew: true}
	return []move{
		ask(5, get(at(5), "a")),                          // Bound
		ask(6, lay(t1, at(6), "a", "a", "!b")),           // Lay
		ask(6, lay(t2, at(7), "elsewhere", "c", "d")),    // Lay
		ask(6, push(t1, at(6), at(8))),                   // none
		renew,                                            // all of that
		ask(6, scan(at(90), "", "", 9)),                  // Bound
		ask(300, lay(t3, at(160), "e", "e", "f")),        // Bound, Bound, Lay
		ask(300, decide(t1, at(1300))),                   // Bound, Commit
		ask(300, undo(t4, at(301))),                      // Undo
		ask(400, push(t4, at(301), at(7))),               // none
		ask(401, push(t3, at(160), at(9))),               // Undo
		ask(401, push(t0, at(401), none)),                // Undo
		ask(401, lay(t1, at(1400), "a", "a")),            // none
		ask(1400, apply(t2, at(1365))),                   // Bound, Apply
		ask(1400, lay(t3, at(1400), "e", "e")),           // none
		ask(1400, done(t1)),                              // Done
		ask(1400, lay(txn(1), at(1400), "a", "a")),       // Lay
		ask(1400, push(txn(1), none, at(1390))),          // none
		renew,                                            // with a verdict of each kind
		ask(1400, decide(txn(1), at(1401))),              // Commit
		ask(1400, lay(txn(2), at(1402), "b", "!a", "b")), // Lay
		ask(1400, decide(txn(2), at(1403))),              // Commit
		ask(1400, lay(txn(3), at(1403), "x", "c")),       // Lay
		ask(1400, safe(at(302))),                         // Safe
		ask(1400, safe(at(1402))),                        // Safe
		ask(1400, undo(txn(4), at(7))),                   // none
		renew,                                            // with a safe time
		ask(1400, apply(txn(3), at(1404))),               // Apply
		ask(1400, undo(txn(3), at(1403))),                // none
		ask(1400, done(txn(2))),                          // Done
		ask(1400, safe(at(1405))),                        // Safe
		ask(1400, get(at(1405), "b")),                    // none
		renew,
		ask(1400, scan(at(1405), "", "", 9)),
	}
}

func txn(n uint32) api.Txn { return api.Txn{Client: 3, N: n} }

// behind answers a pair that has made these moves.
func behind(t *testing.T, room int, moves []move) *pair {
	t.Helper()
	x := begin(t, room)
	for _, m := range moves {
		x.do(m)
	}
	return x
}

// TestStory: each move logs what is told of it above, without a fall and with one behind each.
func TestStory(t *testing.T) {
	x, y := begin(t, wide), begin(t, wide)
	for n, m := range story() {
		if err := x.do(m); err != api.OK {
			t.Errorf("%d: %d", n, err)
		}
		y.do(m)
		y.fall(n % 2)
	}
	var kinds [api.EntryBook + 1]int
	for n := range story() {
		z := behind(t, wide, story()[:n+1])
		for _, e := range entriesOn(t, z.d) {
			kinds[e.Kind]++
		}
	}
	for kind, n := range kinds {
		if kind > 0 && n == 0 {
			t.Errorf("no entry of Kind %d is logged", kind)
		}
	}
}

// entriesOn answers the entries of the log on d.
func entriesOn(t *testing.T, d *drum.Drum) []api.Entry {
	t.Helper()
	_, records, err := log.Open(d)
	if err != api.OK {
		t.Fatalf("log.Open: %d", err)
	}
	var l []api.Entry
	for _, record := range records {
		e, err := entry.Read(record)
		if err != api.OK {
			t.Fatalf("entry.Read: %d", err)
		}
		l = append(l, e)
	}
	return l
}

// TestFallAtEachStep: the drum gives out at each step of each move, and its fall leaves each torn tail.
func TestFallAtEachStep(t *testing.T) {
	cuts := 0
	for n, m := range story() {
		dry := behind(t, wide, story()[:n])
		before := dry.p.steps
		dry.do(m)
		for fuel := range dry.p.steps - before {
			torn := 0
			for keep := 0; keep <= torn; keep++ {
				x := behind(t, wide, story()[:n])
				x.fuel(fuel)
				if err := x.do(m); err != api.ErrDown {
					t.Fatalf("move %d with %d steps: %d", n, fuel, err)
				}
				torn = x.p.torn
				x.fall(keep)
				x.do(m)
				x.fall(math.MaxInt)
				if n+1 < len(story()) {
					x.do(story()[n+1])
				}
				cuts++
			}
		}
	}
	if cuts < 1000 {
		t.Errorf("%d falls alone", cuts)
	}
}

// TestFallsAsItWas: what a shard has is the same behind a fall, but for what may be another; told without the plain one.
func TestFallsAsItWas(t *testing.T) {
	kept := func(s *shard.Shard) string {
		l := s.Intents()
		for n := range l {
			l[n].Min = none
		}
		return tell(s.Items(), l, s.Verdicts(), s.Safe(), none, s.Bound())
	}
	for n := range len(story()) + 1 {
		x := behind(t, wide, story()[:n])
		for range 3 {
			was, clock, bound := kept(x.s), x.s.Clock(), x.s.Bound()
			least := x.s.Intents()
			x.d.Fall(all)
			x.s = opened(t, x.d)
			if got := kept(x.s); got != was || x.s.Clock() != bound || num(clock) > num(bound) {
				t.Fatalf("behind %d moves:\n%s\ninstead of\n%s", n, got, was)
			}
			for i, now := range x.s.Intents() {
				isHere := now.By == t1 || now.By == t3 || now.By == txn(1) || now.By == txn(2)
				if isHere && now.Min != next(bound) || !isHere && now.Min != least[i].Min {
					t.Errorf("behind %d moves: Min %v of %+v", n, now.Min, least[i])
				}
			}
			if err := x.s.Renew(); err != api.OK {
				t.Fatalf("Renew: %d", err)
			}
			if got := kept(x.s); got != was {
				t.Fatalf("behind %d moves Renew changes the shard", n)
			}
		}
	}
}

// TestFull: drums of each room up to what all moves need.
func TestFull(t *testing.T) {
	need := 0
	x := begin(t, wide)
	for _, m := range story() {
		used := x.d.Used()
		x.do(m)
		need = max(need, x.d.Used()+used)
	}
	fulls := 0
	for room := 15; room <= need; room++ {
		x := begin(t, room)
		for _, m := range story() {
			if x.do(m) == api.ErrFull {
				fulls++
				if x.do(m) != api.ErrFull {
					t.Fatalf("a full drum has room again for %+v", m)
				}
			}
		}
		x.fall(0)
		for _, m := range story() {
			x.do(m)
		}
	}
	if x := behind(t, need, story()); x.p.gen != 5 {
		t.Errorf("not all moves were made in a room of %d", need)
	}
	if fulls < need {
		t.Errorf("full %d times alone", fulls)
	}
}

// TestFullBehindBound: what was logged ahead of the entry that has no room stays, and what was heard.
func TestFullBehindBound(t *testing.T) {
	bound := appended(api.Entry{Kind: api.EntryBound, At: at(69, maxLogic)})
	room := 15 + len(bound)
	x := begin(t, room-1)
	x.idle(5, lay(t1, at(5), "a", "a"), refused(api.ErrFull))
	x.idle(5, get(at(5), "a"), refused(api.ErrFull))
	x.idle(5, scan(at(5), "a", "", 9), refused(api.ErrFull))
	x.idle(5, get(none, "a"), nothing())
	x.idle(5, undo(t1, at(5)), refused(api.ErrFull))
	x.idle(5, push(t1, at(5), at(5)), refused(api.ErrFull))
	x.idle(5, safe(at(5, maxLogic)), refused(api.ErrFull))
	x = begin(t, room)
	x.expect(5, lay(t1, at(5), "a", "a"), refused(api.ErrFull), at(5, 1))
	x.expect(5, lay(t1, at(5), "a", "a"), refused(api.ErrFull), at(5, 2))
	if x.s.Bound() != at(69, maxLogic) || len(x.s.Intents()) != 0 {
		t.Error(toldBy(x.s))
	}
	x.expect(5, get(at(69, maxLogic), "a"), nothing(), at(69, maxLogic))
	x.idle(5, get(at(70), "a"), refused(api.ErrFull))
	x.fall(0)
}

// TestRenew: the entries, and how long the log is, whatever it was.
func TestRenew(t *testing.T) {
	x := begin(t, wide)
	for range 3 {
		if err := x.renew(); err != api.OK {
			t.Fatal("Renew:", err)
		}
		if l := entriesOn(t, x.d); len(l) != 1 || l[0].Kind != api.EntryBound || l[0].At != none {
			t.Error("entries of an empty shard:", l)
		}
	}
	x = busy(t, wide)
	x.ask(7, push(t1, at(7), at(60)))
	x.ask(7, lay(t2, at(7), "x", "y", "b"))
	x.ask(7, done(t3))
	if err := x.renew(); err != api.OK {
		t.Fatal("Renew:", err)
	}
	want := []api.Entry{
		{Kind: api.EntryBound, At: at(69, maxLogic)},
		{Kind: api.EntrySafe, At: at(4)},
		{Kind: api.EntryHave, By: t3, At: at(6), Writes: []api.Write{{Key: "a", Val: "a"}}},
		{Kind: api.EntryHave, By: t3, At: at(6), Writes: []api.Write{{Key: "b", Val: "b"}}},
		{Kind: api.EntryBook, By: t3, Start: at(5), At: at(6), Parts: 5, Done: true},
		{Kind: api.EntryBook, By: t4, Start: at(6)},
		{Kind: api.EntryLay, By: t1, Start: at(7), Min: at(60, 1), Primary: "a", Writes: []api.Write{{Key: "a", Val: "a"}, {Key: "c", Val: "c"}}},
		{Kind: api.EntryLay, By: t2, Start: at(7), Min: at(60, 1), Primary: "x", Writes: []api.Write{{Key: "b", Val: "b"}, {Key: "y", Val: "y"}}},
	}
	if got := entriesOn(t, x.d); fmt.Sprintf("%+v", got) != fmt.Sprintf("%+v", want) {
		t.Errorf("entries:\n%+v instead of\n%+v", got, want)
	}
	// The shard goes on with the new log.
	x.ask(7, decide(t1, at(61)))
	x.fall(0)
	x.ask(7, get(at(61), "a"))
}

// TestRenewPrunesNothing: versions that came below the safe time, behind it, are there behind a renewal too, and so are verdicts.
func TestRenewPrunesNothing(t *testing.T) {
	x := begin(t, wide)
	x.ask(5, lay(t1, at(5), "a", "a"))
	x.ask(5, decide(t1, at(6)))
	x.ask(5, lay(t2, at(6), "a", "a", "!b"))
	x.ask(5, lay(t3, at(6), "c", "c"))
	x.ask(5, safe(at(50)))
	x.expect(5, decide(t2, at(7)), committed(at(7)), at(7))
	x.ask(5, done(t2))
	x.expect(5, undo(t3, at(6)), undone(), at(7))
	told := toldBy(x.s)
	if n := len(x.s.Items()[0].Chain); n != 2 || len(x.s.Items()) != 2 || len(x.s.Verdicts()) != 3 {
		t.Error(told)
	}
	x.renew()
	x.fall(0)
	if got := strings.Replace(toldBy(x.s), "clock {69 4095}", "clock {7 0}", 1); got != told {
		t.Errorf("behind Renew:\n%s\ninstead of\n%s", got, told)
	}
}

// TestOpenGivesOut: a drum that gives out within Open, and what the next Open gives.
func TestOpenGivesOut(t *testing.T) {
	for fuel := range 3 {
		d, _ := drum.New(wide)
		d.Fuel(fuel)
		if s, err := shard.Open(d); s != nil || err != api.ErrDown {
			t.Errorf("with %d steps: %v, %d", fuel, s, err)
		}
		if s, err := shard.Open(d); s != nil || err != api.ErrDown {
			t.Errorf("of a drum that is down: %v, %d", s, err)
		}
		d.Fall(all)
		opened(t, d)
	}
	for _, fuel := range []int{3, 5} { // at a renewal's last cut, and behind that in a request's sync
		x := busy(t, wide)
		x.fuel(fuel)
		if x.renew() == api.OK {
			x.ask(7, lay(t2, at(7), "d", "d"))
		}
		x.d.Fall([]int{3, 3, 3, 3})
		x.p.fall(3)
		x.d.Fuel(0)
		if s, err := shard.Open(x.d); s != nil || err != api.ErrDown {
			t.Errorf("with no step: %v, %d", s, err)
		}
		x.fall(0)
	}
}

// drumOf answers a drum with a log of these records.
func drumOf(t *testing.T, renewed []string, records ...string) *drum.Drum {
	t.Helper()
	d, _ := drum.New(wide)
	l, _, err := log.Open(d)
	if err == api.OK && renewed != nil {
		err = l.Renew(renewed)
	}
	for _, r := range records {
		if err == api.OK {
			err = l.Append(r)
		}
	}
	if err != api.OK {
		t.Fatalf("a log of records: %d", err)
	}
	return d
}

// TestOpenOfNoEntry: ErrForm, wherever the record stands that is none.
func TestOpenOfNoEntry(t *testing.T) {
	ok := bytesOf(api.Entry{Kind: api.EntrySafe, At: at(5)})
	long := bytesOf(api.Entry{Kind: api.EntryLay, By: t1, Primary: "a", Writes: []api.Write{{Key: "a", Val: "v"}}})
	bad := []string{"", "\x00", "\x0a", "\x01", ok + "\x00", ok[:len(ok)-1], long[:len(long)-1], long + long, "\x02" + ok[1:], "nothing", strings.Repeat("\x00", 16000),
		bytesOf(api.Entry{Kind: api.EntryCommit, By: t1}), bytesOf(api.Entry{Kind: api.EntryApply, By: t1}),
		bytesOf(api.Entry{Kind: api.EntryBook, By: t1, Parts: 1}), bytesOf(api.Entry{Kind: api.EntryLay, By: t1, Primary: "a"}),
		bytesOf(api.Entry{Kind: api.EntrySafe, At: api.Ts{P: maxPhys + 1}})}
	for _, b := range bad {
		for _, l := range [][]string{{b}, {ok, b}, {b, ok}, {ok, b, long}, {ok, long, b}} {
			for _, d := range []*drum.Drum{drumOf(t, nil, l...), drumOf(t, l), drumOf(t, l[:1], l[1:]...)} {
				if s, err := shard.Open(d); s != nil || err != api.ErrForm {
					t.Errorf("Open of %q: %v, %d", l, s, err)
				}
			}
		}
	}
	s := opened(t, drumOf(t, []string{ok}, long))
	if s.Safe() != at(5) || len(s.Intents()) != 1 {
		t.Error(toldBy(s))
	}
}

// TestOpenOfEntries: what entries make, in orders that no shard logs too.
func TestOpenOfEntries(t *testing.T) {
	a, b := api.Write{Key: "a", Val: "1"}, api.Write{Key: "b", Dead: true}
	lay := api.Entry{Kind: api.EntryLay, By: t1, Start: at(5), Min: at(6), Primary: "a", Writes: []api.Write{b, a}}
	afar := api.Entry{Kind: api.EntryLay, By: t2, Start: at(5), Min: at(7), Primary: "b", Writes: []api.Write{{Key: "c"}}}
	bound := func(u api.Ts) api.Entry { return api.Entry{Kind: api.EntryBound, At: u} }
	commit := api.Entry{Kind: api.EntryCommit, By: t1, Start: at(4), At: at(9), Parts: 3}
	apply := api.Entry{Kind: api.EntryApply, By: t1, At: at(8)}
	undo := api.Entry{Kind: api.EntryUndo, By: t1, Start: at(3)}
	have := api.Entry{Kind: api.EntryHave, By: t3, At: at(2), Writes: []api.Write{a}}
	book := api.Entry{Kind: api.EntryBook, By: t1, Start: at(4), At: at(9), Parts: 3, Done: true}
	over := api.Entry{Kind: api.EntryBook, By: t1, Start: at(4)}
	done := api.Entry{Kind: api.EntryDone, By: t1}
	safe := func(u api.Ts) api.Entry { return api.Entry{Kind: api.EntrySafe, At: u} }
	intent := func(e api.Entry, least api.Ts, w api.Write) api.Intent {
		return api.Intent{By: e.By, Start: e.Start, Min: least, Primary: e.Primary, Write: w}
	}
	version := func(p uint64, by api.Txn, w api.Write) api.Item {
		return api.Item{Key: w.Key, Chain: []api.Version{{At: at(p), By: by, Val: w.Val, Dead: w.Dead}}}
	}
	fate := api.Verdict{By: t1, Start: at(4), At: at(9), Parts: 3}
	fateDone := api.Verdict{By: t1, Start: at(4), At: at(9), Parts: 3, Done: true}
	lost, earlier := api.Verdict{By: t1, Start: at(4)}, api.Verdict{By: t1, Start: at(3)}
	type items = []api.Item
	type intents = []api.Intent
	type verdicts = []api.Verdict
	for n, c := range []struct {
		l        []api.Entry
		items    items
		intents  intents
		verdicts verdicts
		safe     api.Ts
		bound    api.Ts
	}{
		{nil, nil, nil, nil, none, none},
		{[]api.Entry{bound(at(9))}, nil, nil, nil, none, at(9)},
		{[]api.Entry{bound(at(9)), bound(at(7))}, nil, nil, nil, none, at(7)}, // the last one
		{[]api.Entry{lay}, nil, intents{intent(lay, at(6), a), intent(lay, at(6), b)}, nil, none, none},
		{[]api.Entry{lay, bound(at(5, maxLogic))}, nil, intents{intent(lay, at(6), a), intent(lay, at(6), b)}, nil, none, at(5, maxLogic)},
		{[]api.Entry{bound(at(9)), lay, afar}, nil, intents{intent(lay, at(9, 1), a), intent(lay, at(9, 1), b), intent(afar, at(7), afar.Writes[0])}, nil, none, at(9)},
		{[]api.Entry{lay, afar, bound(greatest)}, nil, intents{intent(lay, greatest, a), intent(lay, greatest, b), intent(afar, at(7), afar.Writes[0])}, nil, none, greatest},
		{[]api.Entry{lay, lay, afar}, nil, intents{intent(lay, at(6), a), intent(lay, at(6), b), intent(afar, at(7), afar.Writes[0])}, nil, none, none},
		{[]api.Entry{lay, commit}, items{version(9, t1, a), version(9, t1, b)}, nil, verdicts{fate}, none, none},
		{[]api.Entry{commit, lay}, nil, intents{intent(lay, at(6), a), intent(lay, at(6), b)}, verdicts{fate}, none, none},
		{[]api.Entry{lay, apply}, items{version(8, t1, a), version(8, t1, b)}, nil, nil, none, none},
		{[]api.Entry{apply, commit, apply}, nil, nil, verdicts{fate}, none, none},
		{[]api.Entry{lay, undo}, nil, nil, verdicts{earlier}, none, none},
		{[]api.Entry{undo, commit, done}, nil, nil, verdicts{earlier}, none, none},
		{[]api.Entry{lay, commit, undo}, items{version(9, t1, a), version(9, t1, b)}, nil, verdicts{fate}, none, none},
		{[]api.Entry{lay, commit, done}, items{version(9, t1, a), version(9, t1, b)}, nil, verdicts{fateDone}, none, none},
		{[]api.Entry{done, lay, commit}, items{version(9, t1, a), version(9, t1, b)}, nil, verdicts{fate}, none, none},
		{[]api.Entry{have, have}, items{version(2, t3, a)}, nil, nil, none, none},
		{[]api.Entry{book}, nil, nil, verdicts{fateDone}, none, none},
		{[]api.Entry{over, book}, nil, nil, verdicts{lost}, none, none},
		{[]api.Entry{safe(at(4))}, nil, nil, nil, at(4), none},
		{[]api.Entry{book, safe(at(4))}, nil, nil, verdicts{fateDone}, at(4), none}, // a start at the safe time
		{[]api.Entry{book, safe(at(5))}, nil, nil, nil, at(5), none},
		{[]api.Entry{safe(at(5)), book}, nil, nil, verdicts{fateDone}, at(5), none},
		{[]api.Entry{over, safe(at(4, 1))}, nil, nil, nil, at(4, 1), none},
		{[]api.Entry{over, lay, safe(at(50))}, nil, intents{intent(lay, at(6), a), intent(lay, at(6), b)}, verdicts{lost}, at(50), none}, // it has intents
		{[]api.Entry{book, lay, afar, safe(at(50))}, nil, intents{intent(lay, at(6), a), intent(lay, at(6), b), intent(afar, at(7), afar.Writes[0])}, verdicts{fateDone}, at(50), none},
		{[]api.Entry{over, afar, safe(at(50))}, nil, intents{intent(afar, at(7), afar.Writes[0])}, nil, at(50), none}, // another has
		{[]api.Entry{have, lay, commit, safe(at(9))}, items{version(9, t1, a)}, nil, verdicts{fate}, at(9), none},
		{[]api.Entry{safe(at(9)), have, lay, commit}, items{{Key: "a", Chain: append(version(9, t1, a).Chain, version(2, t3, a).Chain...)}, version(9, t1, b)}, nil, verdicts{fate}, at(9), none},
	} {
		var records []string
		for _, e := range c.l {
			records = append(records, bytesOf(e))
		}
		for cut := range len(records) + 1 {
			s := opened(t, drumOf(t, append([]string{}, records[:cut]...), records[cut:]...))
			if got, want := toldBy(s), tell(c.items, c.intents, c.verdicts, c.safe, c.bound, c.bound); got != want {
				t.Errorf("%d:\n%s\ninstead of\n%s", n, got, want)
			}
		}
	}
}

// TestVerdictBesideIntents: what a shard answers of a transaction that has both, as no requests make it.
func TestVerdictBesideIntents(t *testing.T) {
	lay := api.Entry{Kind: api.EntryLay, By: t1, Start: at(5), Min: at(6), Primary: "x", Writes: []api.Write{{Key: "a"}}}
	over := api.Entry{Kind: api.EntryBook, By: t1, Start: at(5)}
	for _, l := range [][]string{{bytesOf(lay), bytesOf(over)}, {bytesOf(over), bytesOf(lay)}} {
		s := opened(t, drumOf(t, nil, l...))
		if r := s.Handle(9, apply(t1, at(9))); r.Kind != api.SaidFine || len(s.Intents()) != 1 || len(s.Items()) != 0 {
			t.Errorf("Apply: %+v", r)
		}
		for _, q := range []api.Request{decide(t1, at(9)), undo(t1, at(5)), push(t1, at(5), none)} {
			if r := s.Handle(9, q); r.Kind != api.SaidUndone || len(s.Intents()) != 1 {
				t.Errorf("%+v: %+v", q, r)
			}
		}
		if r := s.Handle(9, safe(at(80))); r.Kind != api.SaidFine || len(s.Verdicts()) != 1 {
			t.Errorf("Safe: %+v, verdicts %v", r, s.Verdicts())
		}
	}
	// A version at the stamp none: it is committed by that.
	have := api.Entry{Kind: api.EntryHave, By: t1, Writes: []api.Write{{Key: "a"}}}
	s := opened(t, drumOf(t, nil, bytesOf(have)))
	if r := s.Handle(9, undo(t1, at(5))); r.Kind != api.SaidCommitted || r.At != none {
		t.Errorf("Undo: %+v", r)
	}
}

// TestMemory: what is done with lists that were answered or handed in shows nowhere.
func TestMemory(t *testing.T) {
	x := busy(t, wide)
	q := lay(t2, at(8), "d", "d", "e")
	q.Skips = []api.Txn{t1, t1, t1}[:2]
	x.ask(8, q)
	q.Writes[0], q.Writes[1] = api.Write{Key: "z"}, api.Write{Key: "a"}
	x.alike(said("behind a change of Writes"))
	if q.Skips[:3][2] != t1 {
		t.Error("Lay writes behind Skips")
	}
	for _, ask := range []api.Request{get(at(6), "a"), scan(at(6), "", "", 9)} {
		skips := []api.Txn{t1, t2, t3, t0}
		r := x.ask(8, skip(ask, skips[:2]...))
		if !slices.Equal(skips, []api.Txn{t1, t2, t3, t0}) {
			t.Errorf("%+v changes the room behind Skips: %v", ask, skips)
		}
		for n := range r.Pairs {
			r.Pairs[n] = api.Pair{Key: "z", Val: "z"}
		}
		x.alike(said("behind a change of Pairs"))
		x.ask(8, skip(ask, skips[:2]...))
	}
	items, intents, verdicts := x.s.Items(), x.s.Intents(), x.s.Verdicts()
	for n := range items {
		for i := range items[n].Chain {
			items[n].Chain[i] = api.Version{Val: "z"}
		}
		items[n].Chain = append(items[n].Chain[:0], api.Version{Val: "y"})
		items[n].Key = "z"
	}
	for n := range intents {
		intents[n] = api.Intent{}
	}
	for n := range verdicts {
		verdicts[n] = api.Verdict{}
	}
	x.alike(said("behind a change of what was answered"))
	keep := []int{0, 0, 0, 0}
	x.d.Fall(keep)
	x.p.fall(0)
	x.s = opened(t, x.d)
	x.alike(said("behind a fall"))
}

// TestShardsApart: two shards on two drums have nothing in common.
func TestShardsApart(t *testing.T) {
	x, y := busy(t, wide), begin(t, wide)
	y.ask(5, lay(t1, at(5), "b", "b"))
	x.ask(7, decide(t1, at(8)))
	x.alike(said("beside another"))
	y.alike(said("beside another"))
}
