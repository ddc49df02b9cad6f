package shard_test

import (
	"fmt"
	"math"
	"slices"
	"strings"
	"testing"

	"dovecote/api"
	"dovecote/drum"
	"dovecote/shard"
)

var (
	t0 = api.Txn{}
	t1 = api.Txn{Client: 1, N: 1}
	t2 = api.Txn{Client: 1, N: 2}
	t3 = api.Txn{Client: 2, N: 1}
	t4 = api.Txn{Client: math.MaxUint32, N: math.MaxUint32}
)

// at answers a stamp; without a logical part it is 0.
func at(p uint64, l ...uint32) api.Ts {
	t := api.Ts{P: p}
	for _, n := range l {
		t.L = n
	}
	return t
}

func get(start api.Ts, key string) api.Request {
	return api.Request{Kind: api.AskGet, Start: start, Key: key, By: t4}
}

func scan(start api.Ts, from, to string, limit int) api.Request {
	return api.Request{Kind: api.AskScan, Start: start, Key: from, To: to, Limit: limit, By: t4}
}

// lay lays writes of keys, with the keys' own texts as values; of a key that begins with ! it is dead.
func lay(by api.Txn, start api.Ts, primary string, keys ...string) api.Request {
	q := api.Request{Kind: api.AskLay, By: by, Start: start, Key: primary}
	for _, k := range keys {
		if key, isDead := strings.CutPrefix(k, "!"); isDead {
			q.Writes = append(q.Writes, api.Write{Key: key, Dead: true})
		} else {
			q.Writes = append(q.Writes, api.Write{Key: k, Val: k})
		}
	}
	return q
}

func decide(by api.Txn, at api.Ts) api.Request {
	return api.Request{Kind: api.AskDecide, By: by, At: at, Parts: 5}
}

func apply(by api.Txn, at api.Ts) api.Request {
	return api.Request{Kind: api.AskApply, By: by, At: at}
}

func undo(by api.Txn, start api.Ts) api.Request {
	return api.Request{Kind: api.AskUndo, By: by, Start: start}
}

func push(by api.Txn, start, at api.Ts) api.Request {
	return api.Request{Kind: api.AskPush, By: by, Start: start, At: at}
}

func safe(at api.Ts) api.Request { return api.Request{Kind: api.AskSafe, At: at} }

func done(by api.Txn) api.Request { return api.Request{Kind: api.AskDone, By: by} }

func skip(q api.Request, l ...api.Txn) api.Request {
	q.Skips = l
	return q
}

func as(q api.Request, by api.Txn) api.Request {
	q.By = by
	return q
}

// The replies, but for Now.

func refused(err api.Errno) api.Reply { return api.Reply{Err: err} }

func value(val string) api.Reply { return api.Reply{Kind: api.SaidValue, Found: true, Val: val} }

func nothing() api.Reply { return api.Reply{Kind: api.SaidValue} }

// pairs answers pairs of keys with their own texts.
func pairs(keys ...string) api.Reply {
	r := api.Reply{Kind: api.SaidPairs}
	for _, k := range keys {
		r.Pairs = append(r.Pairs, api.Pair{Key: k, Val: k})
	}
	return r
}

func locked(by api.Txn, start api.Ts, primary string) api.Reply {
	return api.Reply{Kind: api.SaidLocked, Who: by, Start: start, Primary: primary}
}

func laid(at api.Ts) api.Reply { return api.Reply{Kind: api.SaidLaid, At: at} }

func committed(at api.Ts) api.Reply { return api.Reply{Kind: api.SaidCommitted, At: at} }

func undone() api.Reply { return api.Reply{Kind: api.SaidUndone} }

func low(at api.Ts) api.Reply { return api.Reply{Kind: api.SaidLow, At: at} }

func pushed(at api.Ts) api.Reply { return api.Reply{Kind: api.SaidPushed, At: at} }

func fine() api.Reply { return api.Reply{Kind: api.SaidFine} }

func fineAt(at api.Ts) api.Reply { return api.Reply{Kind: api.SaidFine, At: at} }

func conflict() api.Reply { return api.Reply{Kind: api.SaidConflict} }

// expect asks, and holds the reply against one that was written by hand, and what the clock shows then.
func (x *pair) expect(phys uint64, q api.Request, want api.Reply, now api.Ts) {
	x.t.Helper()
	got := x.ask(phys, q)
	want.Now = now
	if !same(got, want) {
		x.t.Fatalf("at %d %+v:\n%+v instead of\n%+v", phys, q, got, want)
	}
}

// idle expects as expect does, and that neither the shard nor its log changes.
func (x *pair) idle(phys uint64, q api.Request, want api.Reply) {
	x.t.Helper()
	told, held := toldBy(x.s), x.p.held
	x.expect(phys, q, want, x.s.Clock())
	if toldBy(x.s) != told || x.p.held != held {
		x.t.Fatalf("at %d %+v changed the shard", phys, q)
	}
}

// P14.1: Handle answers, and changes the shard, as the chapter says, for every request, in every order.

func TestExamples(t *testing.T) {
	x := begin(t, wide)
	x.expect(5, lay(t1, at(5), "a", "a"), laid(at(5, 1)), at(5, 1))
	x.expect(5, get(at(4), "a"), nothing(), at(5, 1))
	x.expect(5, get(at(900), "a"), locked(t1, at(5), "a"), at(900))
	x.expect(5, push(t1, at(5), at(900)), pushed(at(900, 1)), at(900))
	x.expect(5, decide(t1, at(800)), low(at(900, 1)), at(900))
	x.expect(5, decide(t1, at(900, 1)), committed(at(900, 1)), at(900, 1))
	x.expect(5, get(at(900, 1), "a"), value("a"), at(900, 1))
}

func TestEmpty(t *testing.T) {
	x := begin(t, wide)
	for _, by := range []api.Txn{t0, t1} {
		x.idle(0, as(get(none, "a"), by), nothing())
		x.idle(0, as(scan(none, "", "", maxScan), by), pairs())
		x.idle(0, decide(by, at(1)), undone())
		x.idle(0, apply(by, at(1)), fine())
		x.idle(0, done(by), fine())
	}
	x.idle(0, safe(none), fineAt(none))
	if s := x.s; len(s.Items())+len(s.Intents())+len(s.Verdicts()) > 0 || s.Safe() != none || s.Clock() != none || s.Bound() != none {
		t.Error("a new shard has:", toldBy(s))
	}
	x.expect(0, undo(t0, none), undone(), none)
	x.expect(0, push(t1, none, at(9)), undone(), none)
	if l := x.s.Verdicts(); !slices.Equal(l, []api.Verdict{{By: t0}, {By: t1}}) {
		t.Error("verdicts:", l)
	}
	x.fall(0)
	x.idle(0, push(t0, none, at(9)), undone())
	x.idle(0, undo(t1, none), undone())
}

// wrong answers requests that are answered with ErrArg whatever the shard has.
func wrong() []api.Request {
	stamps := []api.Ts{{P: maxPhys + 1}, {P: 5, L: maxLogic + 1}, {P: math.MaxUint64, L: math.MaxUint32}, {L: math.MaxUint32}}
	skips := make([]api.Txn, maxSkips+1)
	var l []api.Request
	for _, kind := range []int{0, -1, 10, 11, math.MinInt, math.MaxInt, 256 + api.AskLay} {
		q := lay(t1, at(5), "a", "a")
		q.Kind, q.At = kind, at(6)
		l = append(l, q, api.Request{Kind: kind})
	}
	for _, q := range one(at(5), at(6)) {
		for _, wrong := range stamps {
			s, a := q, q
			s.Start, a.At = wrong, wrong
			l = append(l, s, a)
		}
		l = append(l, skip(q, skips...), skip(q, make([]api.Txn, 1000)...))
	}
	for _, key := range []string{"", strings.Repeat("k", maxKey+1), strings.Repeat("\x00", 70000)} {
		l = append(l, get(at(5), key), lay(t1, at(5), key, "a"), lay(t1, at(5), "a", key), lay(t1, at(5), "a", "a", key))
	}
	many := lay(t1, at(5), "a")
	for n := range maxWrites + 1 {
		many.Writes = append(many.Writes, api.Write{Key: string(rune('a' + n))})
	}
	val := lay(t1, at(5), "a", "a", "b")
	val.Writes[1].Val = strings.Repeat("v", maxVal+1)
	dead := lay(t1, at(5), "a", "a", "b")
	dead.Writes[1].Dead = true
	l = append(l, many, val, dead, lay(t1, at(5), "a"), lay(t1, at(5), "a", "a", "a"), lay(t1, at(5), "a", "a", "b", "!a"))
	return append(l, decide(t1, none), decide(t2, none), apply(t1, none), apply(t2, none), api.Request{})
}

// one answers a request of each Kind.
func one(start, at api.Ts) []api.Request {
	return []api.Request{get(start, "a"), scan(start, "", "", 9), lay(t2, start, "a", "a", "b"), decide(t1, at), apply(t1, at), undo(t2, start), push(t1, start, at), safe(at), done(t3)}
}

// busy answers a pair with versions, intents, verdicts of all kinds and a safe time.
func busy(t *testing.T, room int) *pair {
	t.Helper()
	x := begin(t, room)
	x.expect(5, lay(t3, at(5), "a", "a", "b"), laid(at(5, 1)), at(5, 1))
	x.expect(5, decide(t3, at(6)), committed(at(6)), at(6))
	x.expect(5, undo(t4, at(6)), undone(), at(6))
	x.expect(5, safe(at(4)), fineAt(at(4)), at(6))
	x.expect(7, lay(t1, at(7), "a", "a", "c"), laid(at(7, 1)), at(7, 1))
	return x
}

func TestWrong(t *testing.T) {
	for _, x := range []*pair{begin(t, wide), busy(t, wide)} {
		for _, q := range wrong() {
			x.idle(7, q, refused(api.ErrArg))
			x.idle(math.MaxUint64, q, refused(api.ErrArg))
		}
	}
}

// TestDown: of what is wrong ErrArg is told ahead of ErrDown, and of all else ErrDown alone.
func TestDown(t *testing.T) {
	x := busy(t, wide)
	x.fuel(0)
	x.expect(7, lay(t2, at(7), "d", "d"), refused(api.ErrDown), at(7, 2))
	for _, q := range wrong() {
		x.idle(7, q, refused(api.ErrArg))
	}
	for _, start := range []api.Ts{none, at(3), at(7), at(2000), greatest} {
		for _, q := range one(start, at(8)) {
			x.idle(7, q, refused(api.ErrDown))
			x.idle(7, as(q, t1), refused(api.ErrDown))
			x.idle(7, as(q, t3), refused(api.ErrDown))
			x.idle(math.MaxUint64, q, refused(api.ErrDown))
		}
	}
	x.idle(7, safe(none), refused(api.ErrDown))
	if err := x.renew(); err != api.ErrDown {
		t.Error("Renew:", err)
	}
	x.fall(0)
}

func TestNil(t *testing.T) {
	var s *shard.Shard
	for _, phys := range []uint64{0, 7, math.MaxUint64} {
		for _, q := range append(wrong(), one(at(5), at(6))...) {
			if r := s.Handle(phys, q); !same(r, refused(api.ErrDown)) {
				t.Errorf("%+v: %+v", q, r)
			}
		}
	}
	if err := s.Renew(); err != api.ErrDown {
		t.Error("Renew:", err)
	}
	if len(s.Items())+len(s.Intents())+len(s.Verdicts()) > 0 || s.Safe() != none || s.Clock() != none || s.Bound() != none {
		t.Error("a nil shard has something")
	}
}

// TestUnmade: what a shard answers that Open hasn't made isn't said, but no call panics.
func TestUnmade(t *testing.T) {
	s := &shard.Shard{}
	for _, q := range append(wrong(), one(at(5), at(6))...) {
		s.Handle(7, q)
	}
	s.Renew()
	toldBy(s)
}

func TestOpenOfNoDrum(t *testing.T) {
	if s, err := shard.Open(nil); s != nil || err != api.ErrDown {
		t.Error("Open:", s, err)
	}
	for room := range 16 {
		d, _ := drum.New(room)
		s, err := shard.Open(d)
		if room < 15 && (s != nil || err != api.ErrFull) || room == 15 && (s == nil || err != api.OK) {
			t.Errorf("Open in a room of %d: %v, %d", room, s, err)
		}
	}
}

func TestGet(t *testing.T) {
	x := begin(t, wide)
	x.expect(5, lay(t1, at(5), "a", "a", "b", "!d"), laid(at(5, 1)), at(5, 1))
	x.expect(5, get(at(5), "a"), nothing(), at(5, 1)) // the Min is above
	x.expect(5, get(at(5, 1), "a"), locked(t1, at(5), "a"), at(5, 1))
	x.expect(5, get(at(5, 2), "b"), locked(t1, at(5), "a"), at(5, 2))
	x.expect(5, as(get(at(6), "b"), t1), nothing(), at(6))
	x.expect(5, skip(get(at(6), "b"), t2, t1), nothing(), at(6))
	x.expect(5, skip(get(at(6), "b"), t2, t3, t0), locked(t1, at(5), "a"), at(6))
	for _, key := range []string{"a\x00", "A", "c", "aa", "\x00", strings.Repeat("a", maxKey)} {
		x.expect(5, get(at(6), key), nothing(), at(6))
	}
	x.expect(5, decide(t1, at(6, 1)), committed(at(6, 1)), at(6, 1))
	x.expect(5, get(at(6), "a"), nothing(), at(6, 1))
	x.expect(5, get(at(6, 1), "a"), value("a"), at(6, 1))
	x.expect(5, get(at(9), "b"), value("b"), at(9))
	x.expect(5, get(at(9), "d"), nothing(), at(9))
	x.expect(5, get(at(9), "a\x00"), nothing(), at(9))
}

// TestGetSkips: as many Skips as may be, with the right one at each place.
func TestGetSkips(t *testing.T) {
	x := begin(t, wide)
	x.ask(5, lay(t1, at(5), "a", "a"))
	for place := range maxSkips {
		skips := make([]api.Txn, maxSkips)
		x.expect(5, skip(get(at(6), "a"), skips...), locked(t1, at(5), "a"), at(6))
		x.expect(5, skip(scan(at(6), "", "", 9), skips...), locked(t1, at(5), "a"), at(6))
		skips[place] = t1
		x.expect(5, skip(get(at(6), "a"), skips...), nothing(), at(6))
		x.expect(5, skip(scan(at(6), "", "", 9), skips...), pairs(), at(6))
	}
}

// TestKeys: keys of one byte and of MaxKey.
func TestKeys(t *testing.T) {
	for _, key := range []string{"\x00", "k", "\xff", strings.Repeat("k", maxKey), strings.Repeat("\xff", maxKey)} {
		x := begin(t, wide)
		q := lay(t1, at(5), key, key)
		x.expect(5, q, laid(at(5, 1)), at(5, 1))
		x.expect(5, get(at(6), key), locked(t1, at(5), key), at(6))
		x.expect(5, scan(at(6), key, "", 9), locked(t1, at(5), key), at(6))
		x.expect(5, scan(at(6), "", key, 9), pairs(), at(6))
		x.expect(5, decide(t1, at(7)), committed(at(7)), at(7))
		x.expect(5, get(at(7), key), value(key), at(7))
		x.expect(5, scan(at(7), "", key+"\x00", 9), pairs(key), at(7))
		x.fall(0)
	}
}

func TestScan(t *testing.T) {
	x := begin(t, wide)
	x.ask(5, lay(t3, at(5), "a", "a", "c", "e", "!g"))
	x.expect(5, decide(t3, at(6)), committed(at(6)), at(6))
	x.expect(5, lay(t1, at(6), "b", "b", "d"), laid(at(6, 1)), at(6, 1))
	x.expect(5, lay(t2, at(6), "f", "f"), laid(at(6, 2)), at(6, 2))
	x.expect(5, scan(at(6), "", "", 9), pairs("a", "c", "e"), at(6, 2)) // each Min is above
	x.expect(5, scan(at(6, 1), "", "", 9), locked(t1, at(6), "b"), at(6, 2))
	x.expect(5, scan(at(6, 1), "e", "", 9), pairs("e"), at(6, 2))
	x.expect(5, scan(at(6, 2), "e", "", 9), locked(t2, at(6), "f"), at(6, 2))
	x.expect(5, scan(at(6, 2), "c", "", 9), locked(t1, at(6), "b"), at(6, 2))
	x.expect(5, scan(at(6, 2), "", "b", 9), pairs("a"), at(6, 2))
	x.expect(5, scan(at(6, 2), "", "b\x00", 9), locked(t1, at(6), "b"), at(6, 2))
	x.expect(5, scan(at(6, 2), "f", "", 9), locked(t2, at(6), "f"), at(6, 2))
	x.expect(5, scan(at(6, 2), "f\x00", "", 9), pairs(), at(6, 2))
	x.expect(5, as(scan(at(6, 2), "", "", 9), t1), locked(t2, at(6), "f"), at(6, 2))
	x.expect(5, skip(scan(at(6, 2), "", "", 9), t1), locked(t2, at(6), "f"), at(6, 2))
	x.expect(5, skip(as(scan(at(6, 2), "", "", 9), t2), t1), pairs("a", "c", "e"), at(6, 2))
	x.expect(5, skip(scan(at(6, 2), "", "", 9), t2, t1), pairs("a", "c", "e"), at(6, 2))
	// An intent behind the last pair that is told counts too.
	x.expect(5, scan(at(6, 2), "", "", 1), locked(t1, at(6), "b"), at(6, 2))
	x.expect(5, scan(at(6, 2), "", "", 0), locked(t1, at(6), "b"), at(6, 2))
	x.expect(5, scan(at(7), "e", "f", 9), pairs("e"), at(7))
	for _, key := range []string{strings.Repeat("z", maxKey+1), strings.Repeat("z", 70000)} {
		x.expect(5, scan(at(7), key, "", 9), pairs(), at(7))
		x.expect(5, scan(at(7), "e", "e"+key, 9), pairs("e"), at(7))
	}
	x.expect(5, scan(at(7), "f", "c", 9), pairs(), at(7))
}

func TestScanLimits(t *testing.T) {
	x := begin(t, wide)
	var keys []string
	for n := range 40 {
		keys = append(keys, string([]byte{'a', byte(n)}))
	}
	for n := range 4 {
		by := api.Txn{Client: 3, N: uint32(n)}
		least := at(5, uint32(n+1))
		x.expect(5, lay(by, at(5), keys[n*10], keys[n*10:n*10+10]...), laid(least), least)
		x.expect(5, decide(by, least), committed(least), least)
	}
	for _, limit := range []int{math.MinInt, -1, 0, 1, 2, 31, 32, 33, 40, math.MaxInt} {
		x.expect(5, scan(at(6), "", "", limit), pairs(keys[:min(max(limit, 0), maxScan)]...), at(6))
	}
	x.expect(5, scan(at(6), keys[30], "", maxScan), pairs(keys[30:]...), at(6))
}

// TestOld: of Get, Scan and Lay ErrOld comes first, and of a Start at the safe time none.
func TestOld(t *testing.T) {
	for _, when := range []api.Ts{at(8), at(8, 7), at(1)} {
		x := begin(t, wide)
		x.ask(5, lay(t1, at(5), "a", "a"))
		x.ask(5, undo(t2, at(9)))
		x.ask(5, safe(when))
		for _, start := range []api.Ts{none, prev(when)} {
			// Locked, known, and too far ahead of the physical clock all the same.
			x.idle(5, get(start, "a"), refused(api.ErrOld))
			x.idle(5, scan(start, "", "", 9), refused(api.ErrOld))
			x.idle(5, lay(t1, start, "a", "a"), refused(api.ErrOld))
			x.idle(5, lay(t2, start, "a", "a"), refused(api.ErrOld))
			x.idle(5, lay(t3, start, "c", "c"), refused(api.ErrOld))
		}
		x.ask(5, safe(at(3000)))
		for _, q := range []api.Request{get(at(2999), "a"), scan(at(2999), "a", "", 9), lay(t3, at(2999), "a", "a")} {
			x.idle(5, q, refused(api.ErrOld))
		}
		x.idle(5, get(at(3000), "a"), refused(api.ErrSkew))
		x.idle(5, scan(at(3000), "a", "", 9), refused(api.ErrSkew))
		x.idle(5, lay(t3, at(3000), "c", "c"), refused(api.ErrSkew))
		x.expect(3000, get(at(3000), "c"), nothing(), at(3000))
		x.expect(3000, scan(at(3000), "b", "", 9), pairs(), at(3000))
		x.expect(3000, lay(t3, at(3000), "c", "c"), laid(at(3000, 1)), at(3000, 1))
	}
}

func TestLay(t *testing.T) {
	x := begin(t, wide)
	x.expect(5, lay(t1, at(5), "b", "b", "a"), laid(at(5, 1)), at(5, 1))
	x.idle(5, lay(t1, at(5), "b", "b", "a"), laid(at(5, 1)))
	x.idle(5, lay(t1, at(6), "z", "z"), laid(at(5, 1))) // it has intents, whatever is asked now
	x.idle(9, lay(t1, at(4000), "z", "a"), laid(at(5, 1)))
	x.expect(5, push(t1, at(5), at(8)), pushed(at(8, 1)), at(8))
	x.idle(5, lay(t1, at(5), "b", "b", "a"), laid(at(8, 1)))
	x.idle(5, lay(t2, at(6), "a", "a"), locked(t1, at(5), "b"))
	x.idle(5, lay(t2, at(6), "c", "c", "b"), locked(t1, at(5), "b"))
	x.idle(5, lay(t2, at(4000), "c", "c", "b"), locked(t1, at(5), "b")) // also above all Mins, and too far ahead
	x.expect(9, lay(t2, at(6), "elsewhere", "c"), laid(at(9)), at(9))   // the physical clock is ahead
	x.expect(9, lay(t3, at(6), "e", "e"), laid(at(9, 1)), at(9, 1))     // it isn't
	x.expect(9, lay(t4, at(12), "f", "f"), laid(at(12, 1)), at(12, 1))  // the Start is
	want := []api.Intent{
		{By: t1, Start: at(5), Min: at(8, 1), Primary: "b", Write: api.Write{Key: "a", Val: "a"}},
		{By: t1, Start: at(5), Min: at(8, 1), Primary: "b", Write: api.Write{Key: "b", Val: "b"}},
		{By: t2, Start: at(6), Min: at(9), Primary: "elsewhere", Write: api.Write{Key: "c", Val: "c"}},
		{By: t3, Start: at(6), Min: at(9, 1), Primary: "e", Write: api.Write{Key: "e", Val: "e"}},
		{By: t4, Start: at(12), Min: at(12, 1), Primary: "f", Write: api.Write{Key: "f", Val: "f"}},
	}
	if l := x.s.Intents(); !slices.Equal(l, want) {
		t.Error("Intents:", l)
	}
}

// TestLayOfWrites: the greatest lists, and values of no byte and of MaxVal.
func TestLayOfWrites(t *testing.T) {
	x := begin(t, wide)
	q := lay(t1, at(5), "k", "k", "!d")
	q.Writes[0].Val = ""
	x.expect(5, q, laid(at(5, 1)), at(5, 1))
	big := api.Request{Kind: api.AskLay, By: t4, Start: at(5), Key: strings.Repeat("p", maxKey)}
	for n := range maxWrites {
		big.Writes = append(big.Writes, api.Write{Key: strings.Repeat(string(rune('A'+n)), maxKey), Val: strings.Repeat("v", maxVal)})
	}
	x.expect(5, big, laid(at(5, 2)), at(5, 2))
	x.fall(0)
	x.expect(5, apply(t4, at(5, 2)), fine(), at(69, maxLogic))
	x.expect(70, decide(t1, at(70)), committed(at(70)), at(70))
	x.fall(0)
	x.expect(70, get(at(70), "k"), value(""), at(134, maxLogic))
	x.expect(70, get(at(70), "d"), nothing(), at(134, maxLogic))
	x.expect(70, get(at(70), big.Writes[15].Key), value(strings.Repeat("v", maxVal)), at(134, maxLogic))
}

// TestLayContests: write by write, of each Locked, then Conflict, then ErrMore.
func TestLayContests(t *testing.T) {
	x := begin(t, wide)
	for n := range maxChain {
		by := api.Txn{Client: 7, N: uint32(n)}
		x.s.Handle(5, lay(by, at(5, uint32(n+1)), "full", "full"))
		x.s.Handle(5, decide(by, at(5, uint32(n+2))))
		x.p.Handle(5, lay(by, at(5, uint32(n+1)), "full", "full"))
		x.p.Handle(5, decide(by, at(5, uint32(n+2))))
		if n == maxChain-2 {
			x.alike(said("with one version less than there may be"))
		}
	}
	x.alike(said("with as many versions as there may be"))
	top := at(5, maxChain+1)
	x.ask(5, lay(t3, at(5), "new", "new"))
	x.ask(5, decide(t3, at(6)))
	x.ask(5, lay(t1, at(6), "taken", "taken"))
	x.idle(5, lay(t2, at(6), "full", "full"), refused(api.ErrMore))
	x.idle(5, lay(t2, top, "full", "full"), refused(api.ErrMore))
	x.idle(5, lay(t2, prev(top), "full", "full"), conflict())
	x.idle(5, lay(t2, at(4000), "full", "full"), refused(api.ErrMore)) // ahead of ErrSkew
	x.idle(5, lay(t2, at(5, 4095), "new", "new"), conflict())
	x.idle(5, lay(t2, at(6), "full", "free", "full", "taken"), refused(api.ErrMore))
	x.idle(5, lay(t2, at(6), "full", "free", "taken", "full"), locked(t1, at(6), "taken"))
	x.idle(5, lay(t2, at(5, 4000), "full", "new", "taken", "full"), conflict())
	x.idle(5, lay(t2, at(5, 4000), "full", "taken", "new", "full"), locked(t1, at(6), "taken"))
	x.idle(5, lay(t2, at(5, 4000), "full", "full", "new", "taken"), refused(api.ErrMore))
	x.expect(5, lay(t2, at(6), "new", "new", "free"), laid(at(6, 2)), at(6, 2)) // a newest stamp at the Start is no conflict
	x.expect(5, safe(at(5, 3)), fineAt(at(5, 3)), at(6, 2))
	x.expect(5, lay(t4, at(6), "full", "full"), laid(at(6, 3)), at(6, 3))
	x.expect(5, decide(t4, at(6, 3)), committed(at(6, 3)), at(6, 3))
	x.fall(0)
}

// TestFullChain: the last version that there may be, and none behind it; and what a renewal makes of so many.
func TestFullChain(t *testing.T) {
	d, _ := drum.New(wide)
	s := opened(t, d)
	for n := range uint32(maxChain) {
		by := api.Txn{Client: 7, N: n}
		if r := s.Handle(5, lay(by, s.Clock(), "k", "k")); r.Kind != api.SaidLaid {
			t.Fatal(n, r)
		}
		if r := s.Handle(5, decide(by, s.Clock())); r.Kind != api.SaidCommitted {
			t.Fatal(n, r)
		}
	}
	if r := s.Handle(5, lay(t1, s.Clock(), "k", "k")); r.Err != api.ErrMore || len(s.Items()[0].Chain) != maxChain {
		t.Error(r)
	}
	told := toldBy(s)
	if err := s.Renew(); err != api.OK || toldBy(s) != told {
		t.Error("Renew:", err)
	}
	clock := s.Clock()
	s = opened(t, d)
	if got := strings.Replace(toldBy(s), fmt.Sprintf("clock %v", s.Clock()), fmt.Sprintf("clock %v", clock), 1); got != told {
		t.Error("another shard behind Renew")
	}
}

func TestDecide(t *testing.T) {
	x := begin(t, wide)
	x.ask(5, lay(t1, at(5), "a", "b", "a"))
	x.ask(6, lay(t2, at(5), "elsewhere", "c"))
	x.idle(6, decide(t3, at(9)), undone()) // no intents
	x.idle(6, decide(t2, at(9)), refused(api.ErrArg))
	x.idle(6, decide(t2, at(1)), refused(api.ErrArg)) // ahead of Low
	x.idle(6, decide(t1, at(5)), low(at(5, 1)))
	x.idle(6, decide(t1, at(1007)), refused(api.ErrSkew))
	q := decide(t1, at(5, 1))
	q.Start, q.Parts = at(1), 255
	x.expect(6, q, committed(at(5, 1)), at(6)) // at the Min
	if l := x.s.Verdicts(); !slices.Equal(l, []api.Verdict{{By: t1, Start: at(5), At: at(5, 1), Parts: 255}}) {
		t.Error("Verdicts:", l)
	}
	x.idle(6, decide(t1, at(5, 1)), committed(at(5, 1)))
	x.idle(6, decide(t1, at(1)), committed(at(5, 1)))
	x.idle(6, decide(t1, at(1007)), committed(at(5, 1)))
	x.ask(6, lay(t3, at(6), "a", "a"))
	x.expect(6, decide(t3, at(1006)), committed(at(1006)), at(1006))
	x.expect(6, undo(t4, at(6)), undone(), at(1006))
	x.idle(6, decide(t4, at(7)), undone())
	want := []api.Item{
		{Key: "a", Chain: []api.Version{{At: at(1006), By: t3, Val: "a"}, {At: at(5, 1), By: t1, Val: "a"}}},
		{Key: "b", Chain: []api.Version{{At: at(5, 1), By: t1, Val: "b"}}},
	}
	if got := x.s.Items(); fmt.Sprint(got) != fmt.Sprint(want) {
		t.Error("Items:", got)
	}
}

func TestApply(t *testing.T) {
	x := begin(t, wide)
	x.ask(5, lay(t1, at(5), "a", "a"))
	x.ask(6, lay(t2, at(5), "elsewhere", "c", "!b"))
	x.idle(6, apply(t3, at(9)), fine()) // no intents
	x.idle(6, apply(t1, at(9)), refused(api.ErrArg))
	x.idle(6, apply(t2, at(5, maxLogic)), refused(api.ErrArg)) // below the Min
	x.idle(6, apply(t2, at(1007)), refused(api.ErrSkew))
	x.expect(6, apply(t2, at(6)), fine(), at(6)) // at it
	x.idle(6, apply(t2, at(6)), fine())
	x.idle(6, apply(t2, at(1007)), fine())
	if l := x.s.Verdicts(); len(l) != 0 {
		t.Error("Verdicts:", l)
	}
	// A version alone tells it too.
	x.idle(6, decide(t2, at(99)), committed(at(6)))
	x.idle(6, undo(t2, at(5)), committed(at(6)))
	x.idle(6, push(t2, at(5), at(99)), committed(at(6)))
	x.idle(6, lay(t2, at(5), "elsewhere", "c"), committed(at(6)))
	x.expect(6, undo(t1, at(5)), undone(), at(6))
	x.idle(6, apply(t1, at(9)), fine())
	x.ask(6, lay(t3, at(6), "elsewhere", "c"))
	x.expect(6, apply(t3, at(1006)), fine(), at(1006))
	want := []api.Item{
		{Key: "b", Chain: []api.Version{{At: at(6), By: t2, Dead: true}}},
		{Key: "c", Chain: []api.Version{{At: at(1006), By: t3, Val: "c"}, {At: at(6), By: t2, Val: "c"}}},
	}
	if got := x.s.Items(); fmt.Sprint(got) != fmt.Sprint(want) {
		t.Error("Items:", got)
	}
}

// TestKnown: what is known by a verdict and by a version alone, till neither is there.
func TestKnown(t *testing.T) {
	x := begin(t, wide)
	asks := func(by api.Txn) []api.Request {
		return []api.Request{lay(by, at(99), "k", "k"), lay(by, at(99), "x", "taken"), decide(by, at(99)), undo(by, at(99)), push(by, at(99), none), push(by, at(99), greatest)}
	}
	x.ask(5, lay(t1, at(5), "a", "a", "b"))
	x.ask(5, decide(t1, at(6)))
	x.ask(5, lay(t2, at(6), "elsewhere", "c", "!d"))
	x.ask(5, apply(t2, at(7)))
	x.ask(5, undo(t3, at(8)))
	x.ask(5, lay(t4, at(7), "taken", "taken"))
	check := func() {
		t.Helper()
		for _, q := range asks(t1) {
			x.idle(5, q, committed(at(6)))
		}
		for _, q := range asks(t2) {
			x.idle(5, q, committed(at(7)))
		}
		for _, q := range asks(t3) {
			x.idle(5, q, undone())
		}
	}
	check()
	x.fall(0)
	check()
	x.renew()
	check()
	x.fall(0)
	check()
	x.ask(5, done(t1))
	x.ask(5, safe(at(9)))
	// The verdicts are gone, that of t3 too; t1 and t2 have versions that aren't dead.
	for _, q := range asks(t1)[:5] {
		x.idle(5, q, committed(at(6)))
	}
	for _, q := range asks(t2)[:5] {
		x.idle(5, q, committed(at(7)))
	}
	if l := x.s.Verdicts(); len(l) != 0 {
		t.Error("Verdicts:", l)
	}
	x.idle(5, undo(t3, at(8)), undone())
	x.idle(5, push(t3, at(8), at(9)), undone())
	x.idle(5, lay(t3, at(8), "k", "k"), refused(api.ErrOld))
}

// TestUndo: of a transaction with intents and of one without, with a start below the safe time, at it and above it.
func TestUndo(t *testing.T) {
	when := at(50, 3)
	for _, start := range []api.Ts{none, prev(when), when, next(when), greatest} {
		for _, q := range []api.Request{undo(t1, start), push(t1, start, none), push(t1, start, at(7)), push(t1, start, greatest)} {
			x := begin(t, wide)
			x.ask(5, safe(when))
			told := toldBy(x.s)
			x.expect(5, q, undone(), none)
			isBelow := num(start) < num(when)
			if isBelow != (toldBy(x.s) == told) || isBelow != (len(x.s.Verdicts()) == 0) {
				t.Errorf("%+v: %v", q, x.s.Verdicts())
			}
			if l := x.s.Verdicts(); len(l) > 0 && l[0] != (api.Verdict{By: t1, Start: start}) {
				t.Errorf("%+v: %v", q, l)
			}
			x.idle(5, q, undone())
			x.fall(0)
		}
		for _, primary := range []string{"a", "elsewhere"} {
			x := begin(t, wide)
			x.ask(5, lay(t1, at(5), primary, "a", "b"))
			x.ask(5, lay(t2, at(5), "c", "c"))
			x.ask(5, safe(when))
			x.expect(5, undo(t1, start), undone(), at(5, 2))
			if l := x.s.Verdicts(); !slices.Equal(l, []api.Verdict{{By: t1, Start: start}}) {
				t.Error("Verdicts:", l)
			}
			if l := x.s.Intents(); len(l) != 1 || l[0].By != t2 || len(x.s.Items()) != 0 {
				t.Error("Intents:", l)
			}
			x.idle(5, undo(t1, start), undone())
			x.fall(0)
		}
	}
}

func TestPush(t *testing.T) {
	x := begin(t, wide)
	x.ask(5, lay(t1, at(5), "b", "a", "b"))
	x.ask(5, lay(t2, at(5), "elsewhere", "c"))
	x.idle(5, push(t2, at(5), none), refused(api.ErrArg))
	x.idle(500, push(t2, at(5), none), refused(api.ErrArg)) // ahead of being late
	x.idle(5, push(t2, at(5), greatest), refused(api.ErrArg))
	x.idle(5, push(t1, at(5), none), pushed(at(5, 1)))
	x.idle(105, push(t1, at(1), none), pushed(at(5, 1))) // their Start counts, not the request's
	x.idle(5, push(t1, at(5), at(1)), pushed(at(5, 1)))  // below the Min
	x.idle(5, push(t1, at(5), at(5)), pushed(at(5, 1)))
	x.expect(5, push(t1, at(5), at(5, 1)), pushed(at(5, 2)), at(5, 2))
	x.expect(5, push(t1, at(5), at(5, maxLogic)), pushed(at(6)), at(5, maxLogic))
	x.idle(5, push(t1, at(5), at(1006)), refused(api.ErrSkew))
	x.idle(5, push(t1, at(5), greatest), refused(api.ErrOver)) // ahead of ErrSkew
	x.expect(5, push(t1, at(5), at(1005)), pushed(at(1005, 1)), at(1005))
	for _, i := range x.s.Intents() {
		if i.By == t1 && i.Min != at(1005, 1) || i.By == t2 && i.Min != at(5, 2) {
			t.Error("Min:", i)
		}
	}
	x.idle(5, get(at(1005), "a"), nothing())
	x.expect(5, get(at(1005, 1), "a"), locked(t1, at(5), "b"), at(1005, 1))
	x.expect(106, push(t1, at(1), greatest), undone(), at(1005, 1)) // late: ahead of ErrOver
	if l := x.s.Verdicts(); !slices.Equal(l, []api.Verdict{{By: t1, Start: at(5)}}) {
		t.Error("Verdicts:", l)
	}
	x.idle(5, push(t1, at(5), none), undone())
}

// TestLate: by the physical clock, whatever the shard's own shows.
func TestLate(t *testing.T) {
	for _, phys := range []uint64{0, 5, 104, 105, 106, maxPhys, maxPhys + 1, math.MaxUint64} {
		for _, at := range []api.Ts{none, at(6), greatest} {
			x := begin(t, wide)
			x.ask(900, lay(t1, api.Ts{P: 5, L: maxLogic}, "a", "a"))
			told := toldBy(x.s)
			r := x.ask(phys, push(t1, none, at))
			if isLate := phys > 105; isLate != (r.Kind == api.SaidUndone) || !isLate != (toldBy(x.s) == told) {
				t.Errorf("at %d: %+v", phys, r)
			}
		}
	}
}

func TestSafe(t *testing.T) {
	x := begin(t, wide)
	for n, by := range []api.Txn{t1, t2, t3} {
		x.ask(5, lay(by, at(5+uint64(n)), "a", "a", "!b"))
		x.ask(5, decide(by, at(6+uint64(n))))
	}
	x.ask(5, done(t1))
	x.ask(5, done(t3))
	x.ask(5, undo(t4, at(6, 1)))
	x.expect(5, safe(at(6)), fineAt(at(6)), at(8))
	if x.s.Safe() != at(6) || len(x.s.Verdicts()) != 3 || len(x.s.Items()[0].Chain) != 3 || len(x.s.Items()[1].Chain) != 2 {
		t.Error(toldBy(x.s))
	}
	for _, no := range []api.Ts{none, at(5), at(5, maxLogic), at(6)} {
		x.idle(5, safe(no), fineAt(at(6)))
	}
	x.expect(5, safe(at(6, 1)), fineAt(at(6, 1)), at(8)) // t4's start is at it
	if len(x.s.Verdicts()) != 3 {
		t.Error(toldBy(x.s))
	}
	x.expect(5, safe(at(7, 1)), fineAt(at(7, 1)), at(8))
	// The starts of all are below it now; t2 isn't Done.
	if l := x.s.Verdicts(); !slices.Equal(l, []api.Verdict{{By: t2, Start: at(6), At: at(7), Parts: 5}}) {
		t.Error("Verdicts:", l)
	}
	x.fall(0)
	x.expect(5, safe(greatest), fineAt(greatest), at(69, maxLogic))
	if len(x.s.Items()) != 1 || len(x.s.Items()[0].Chain) != 1 || len(x.s.Verdicts()) != 1 {
		t.Error(toldBy(x.s))
	}
	x.idle(5, safe(at(7)), fineAt(greatest))
	x.idle(maxPhys, get(prev(greatest), "a"), refused(api.ErrOld))
	x.expect(maxPhys, get(greatest, "a"), value("a"), greatest)
	x.fall(0)
}

func TestDone(t *testing.T) {
	x := begin(t, wide)
	x.idle(5, done(t1), fine())
	x.ask(5, lay(t1, at(5), "a", "a"))
	x.idle(5, done(t1), fine()) // not committed
	x.ask(5, decide(t1, at(6)))
	x.expect(5, done(t1), fine(), at(6))
	if l := x.s.Verdicts(); len(l) != 1 || !l[0].Done {
		t.Error("Verdicts:", l)
	}
	x.idle(5, done(t1), fine())
	x.ask(5, undo(t2, at(6)))
	x.idle(5, done(t2), fine())
	x.ask(5, lay(t3, at(6), "elsewhere", "b"))
	x.ask(5, apply(t3, at(7)))
	x.idle(5, done(t3), fine()) // committed by its version, without a verdict
	x.fall(0)
	x.idle(5, done(t1), fine())
}

// TestClock: what each request that hears lets the clock and the bound show, at each distance of its stamp from them.
func TestClock(t *testing.T) {
	for _, phys := range []uint64{0, 5, 100, 1000, maxPhys, maxPhys + 1, math.MaxUint64} {
		for _, u := range []api.Ts{none, at(0, 1), at(6), at(69, maxLogic), at(70), at(71), at(999, 7), at(1000), at(1001), at(1005), at(1006), at(1100), at(1101), at(2000), at(2001), {P: maxPhys - 64}, {P: maxPhys}, prev(greatest), greatest} {
			asks := []api.Request{get(u, "k"), scan(u, "k", "", 9), lay(t3, u, "k", "k"), decide(t1, u), apply(t2, u), push(t1, none, u), undo(t3, u), safe(u)}
			for _, q := range asks {
				x := begin(t, wide)
				x.ask(5, lay(t1, at(5), "a", "a"))
				x.ask(5, lay(t2, at(5), "elsewhere", "b"))
				x.ask(phys, q)
				x.ask(phys, q)
				x.ask(phys, get(u, "z"))
				x.fall(0)
				x.ask(phys, q)
				x.ask(phys, decide(t1, x.p.bound))
				x.fall(0)
			}
		}
	}
}

// TestGreatest: a clock at its end, a bound without a next.
func TestGreatest(t *testing.T) {
	x := begin(t, wide)
	x.expect(maxPhys, lay(t1, prev(prev(greatest)), "a", "a"), laid(prev(greatest)), prev(greatest))
	x.expect(maxPhys, lay(t2, at(5), "b", "b"), laid(greatest), greatest)
	x.idle(maxPhys, lay(t3, at(5), "c", "c"), refused(api.ErrOver))
	x.idle(maxPhys+1, lay(t3, at(5), "c", "c"), refused(api.ErrOver))
	if x.s.Bound() != greatest {
		t.Error("Bound:", x.s.Bound())
	}
	x.fall(0)
	for _, i := range x.s.Intents() {
		if i.Min != greatest {
			t.Error("Min:", i)
		}
	}
	x.idle(maxPhys, get(prev(greatest), "a"), nothing())
	x.idle(maxPhys, get(greatest, "a"), locked(t1, prev(prev(greatest)), "a"))
	x.idle(maxPhys, push(t1, at(5), greatest), refused(api.ErrOver))
	x.idle(maxPhys, push(t1, at(5), prev(greatest)), pushed(greatest))
	x.idle(maxPhys, decide(t1, prev(greatest)), low(greatest))
	x.expect(maxPhys, decide(t1, greatest), committed(greatest), greatest)
	x.expect(maxPhys, get(greatest, "a"), value("a"), greatest)
	x.expect(maxPhys, push(t2, at(5), none), undone(), greatest)
}

// TestHeardAhead: what was heard ahead of an error stays heard.
func TestHeardAhead(t *testing.T) {
	x := begin(t, wide)
	x.expect(maxPhys+1, lay(t1, at(7), "a", "a"), refused(api.ErrOver), at(7))
	x.expect(math.MaxUint64, lay(t1, at(9), "a", "a"), refused(api.ErrOver), at(9))
	if x.s.Bound() != at(71, maxLogic) || len(x.s.Intents()) != 0 {
		t.Error(toldBy(x.s))
	}
}

// TestAgain: each request once more at once, and a third time behind a fall.
func TestAgain(t *testing.T) {
	for _, start := range []api.Ts{none, at(5), at(7, 1), at(8), at(71), at(900)} {
		for _, when := range []api.Ts{at(3), at(7), at(7, 1), at(8), at(900)} {
			for _, by := range []api.Txn{t0, t1, t2, t3, t4} {
				for _, q := range one(start, when) {
					x := busy(t, wide)
					first := x.ask(7, as(q, by))
					x.idle(7, as(q, by), first)
					x.fall(0)
					x.ask(7, as(q, by))
				}
			}
		}
	}
}
