package session_test

import (
	"fmt"
	"math"
	"slices"
	"testing"

	"dovecote/api"
)

func TestCommitWithoutWrites(t *testing.T) {
	d := begun(t, 1, 4, 50)
	d.do(commit, d.gotAt(api.GotCommitted, at(50)))
	d.ended()
	d.quiet(true)
	d.sent()
	d.do(commit, api.Result{Kind: api.GotError, Err: api.ErrIdle})
	// Nor is one asked for by what was read.
	d.begin(60)
	d.do(get("a"), nowhere)
	d.sent(to{2, d.askGet("a")})
	d.hear(1, value("x"), d.gotValue("x"))
	d.do(put("", "x"), d.gotErr(api.GotError, api.ErrArg))
	d.do(commit, d.gotAt(api.GotCommitted, at(60)))
	d.quiet(true)
	d.sent()
}

func TestAbort(t *testing.T) {
	for _, keys := range [][]string{nil, {"a"}, {"a", "b", "c"}} {
		d := wrote(t, 4, keys...)
		d.do(abort, d.got(api.GotFine))
		d.ended()
		d.quiet(true)
		d.sent()
		d.do(abort, api.Result{Kind: api.GotError, Err: api.ErrIdle})
		d.begin(60)
		d.do(commit, d.gotAt(api.GotCommitted, at(60)))
	}
}

// TestParts: each home has a Lay of its own writes, in the order of the shards' numbers.
func TestParts(t *testing.T) {
	d := begun(t, 1, 4, 50)
	for _, o := range []api.Op{put("e", "1"), put("d", "2"), del("c"), put("g", ""), put("b", "4"), del("h")} {
		d.do(o, d.got(api.GotFine))
	}
	d.do(commit, nowhere)
	of := func(l ...api.Write) api.Request {
		q := d.askLay("b")
		q.Writes = l
		return q
	}
	d.sent(
		to{0, of(api.Write{Key: "c", Dead: true}, api.Write{Key: "g"})},
		to{1, of(api.Write{Key: "b", Val: "4"})},
		to{2, of(api.Write{Key: "e", Val: "1"})},
		to{3, of(api.Write{Key: "d", Val: "2"}, api.Write{Key: "h", Dead: true})},
	)
	d.runs()
	d.quiet(false)
	for n := range 4 {
		d.hear(uint32(4-n), laid(at(60)), nowhere)
	}
	d.sent(to{1, d.askDecide(at(60), "b", 15)})
	d.hear(5, committed(at(60)), d.gotAt(api.GotCommitted, at(60)))
	d.sent(to{0, d.askApply(at(60))}, to{2, d.askApply(at(60))}, to{3, d.askApply(at(60))})
}

// TestPartsOfFewAndMany: the primary's home, the parts and their order, of each number of shards.
func TestPartsOfFewAndMany(t *testing.T) {
	keys := []string{"k1", "k3", "a", "zz", "m", "k1\x00", "q", "\xff\xff\xff", "b7"}
	for shards := 1; shards <= maxShards; shards++ {
		for n := 1; n <= len(keys); n++ {
			own := map[int][]string{}
			sorted := slices.Sorted(slices.Values(keys[:n]))
			var bits uint8
			for _, k := range sorted {
				own[homeOf(k, shards)] = append(own[homeOf(k, shards)], k)
				bits |= 1 << homeOf(k, shards)
			}
			d := wrote(t, shards, keys[:n]...)
			var lays, applies []to
			home := homeOf(sorted[0], shards)
			for i := range shards {
				if len(own[i]) > 0 {
					lays = append(lays, to{i, d.askLay(sorted[0], own[i]...)})
					if i != home {
						applies = append(applies, to{i, d.askApply(at(60))})
					}
				}
			}
			if len(applies) == 0 {
				applies = []to{{home, d.askDone()}}
			}
			d.do(commit, nowhere)
			d.sent(lays...)
			for i := range lays {
				d.hear(uint32(i+1), laid(at(60)), nowhere)
			}
			d.sent(to{home, d.askDecide(at(60), sorted[0], bits)})
			d.hear(d.seq, committed(at(60)), d.gotAt(api.GotCommitted, at(60)))
			d.ended()
			d.sent(applies...)
		}
	}
}

// orders answers all orders of n numbers from 0 on.
func orders(n int) [][]int {
	if n == 0 {
		return [][]int{nil}
	}
	var l [][]int
	for _, o := range orders(n - 1) {
		for i := range n {
			l = append(l, slices.Insert(slices.Clone(o), i, n-1))
		}
	}
	return l
}

// TestLaid: when all parts have, in any order, the greatest stamp of them is decided by.
func TestLaid(t *testing.T) {
	for _, order := range orders(4) {
		for _, stamps := range [][]api.Ts{
			{at(61), at(62), at(63), at(64)}, {at(64), at(63), at(62), at(61)}, {at(61), at(70, 3), at(70, 4), at(64)},
			{none, none, none, none}, {at(5), none, greatest, at(7)}, {at(60), at(60), at(60), at(60)}, {at(1, 4095), at(2), at(1), none},
		} {
			d := laying(t, 4, "a", "b", "c", "d")
			var most api.Ts
			for i, n := range order {
				d.sent()
				r := laid(stamps[n])
				most = later(most, r.At)
				r.Now = none
				d.hear(uint32(n+1), r, nowhere)
				d.quiet(false)
				// Once more plays no part.
				if i < 3 {
					d.hear(uint32(n+1), laid(greatest), nowhere)
				}
			}
			d.sent(to{2, d.askDecide(most, "a", 15)})
			d.hear(5, committed(most), d.gotAt(api.GotCommitted, most))
		}
	}
}

// scene is a desk with a letter to be answered, and what is to come of each Kind of answer; of those that aren't told, of errors and of none that are: rest.
type scene struct {
	name string
	make func(t *testing.T) (*desk, uint32)
	told map[int]func(d *desk, hear func(api.Result))
	rest func(d *desk, hear func(api.Result), err api.Errno)
}

// failing: the op fails, and the transaction goes on.
func failing(d *desk, hear func(api.Result), err api.Errno) {
	d.Helper()
	hear(d.gotErr(api.GotError, err))
	d.runs()
	d.quiet(true)
	d.sent()
	d.give(d.gotErr(api.GotError, api.ErrIdle))
	d.do(put("a", "x"), d.got(api.GotFine))
}

// givingUp: the transaction of a and b ends, and both parts are told.
func givingUp(d *desk, hear func(api.Result), err api.Errno) {
	d.Helper()
	hear(d.gotErr(api.GotAborted, err))
	d.undoes(1, 2)
	d.give(api.Result{Kind: api.GotError, Err: api.ErrIdle})
	d.beginAt(0, at(50, 1))
}

// givingUpWith is givingUp for one error.
func givingUpWith(err api.Errno) func(d *desk, hear func(api.Result)) {
	return func(d *desk, hear func(api.Result)) {
		d.Helper()
		givingUp(d, hear, err)
	}
}

// sending: nothing has come yet, and this is asked.
func sending(what func(d *desk) to) func(d *desk, hear func(api.Result)) {
	return func(d *desk, hear func(api.Result)) {
		d.Helper()
		hear(nowhere)
		d.runs()
		d.quiet(false)
		d.sent(what(d))
	}
}

// idle: nothing has come, and nothing is asked.
func idle(d *desk, hear func(api.Result)) {
	d.Helper()
	hear(nowhere)
	d.sent()
}

// succeeding: the transaction of a and b has committed by what is told, 45.
func succeeding(d *desk, hear func(api.Result)) {
	d.Helper()
	hear(d.gotAt(api.GotCommitted, at(45)))
	d.ended()
	d.sent(to{1, d.askApply(at(45))})
	d.quiet(false)
}

// getting answers a desk with a Get of a under way.
func getting(t *testing.T) (*desk, uint32) {
	d := begun(t, 1, 4, 50)
	d.do(get("a"), nowhere)
	d.sent(to{2, d.askGet("a")})
	return d, 1
}

// scanning answers a desk with a Scan under way that two of three shards have answered.
func scanning(t *testing.T) (*desk, uint32) {
	d := begun(t, 1, 3, 50)
	d.do(scan("a", "d", 9), nowhere)
	q := d.askScan("a", "d")
	d.sent(to{0, q}, to{1, q}, to{2, q})
	d.hear(1, pairs("", "b"), nowhere)
	d.hear(3, pairs("", "a"), nowhere)
	d.sent()
	return d, 2
}

// layingTwo answers a desk with a Commit of a and b under way, of which a has been laid.
func layingTwo(t *testing.T) (*desk, uint32) {
	d := laying(t, 4, "a", "b")
	d.hear(2, laid(at(60)), nowhere)
	d.sent()
	return d, 1
}

// locking answers from with a lock, and what is asked then is the letter to be answered.
func locking(from func(t *testing.T) (*desk, uint32), shard int) func(t *testing.T) (*desk, uint32) {
	return func(t *testing.T) (*desk, uint32) {
		d, seq := from(t)
		d.hear(seq, locked(who, "d"), nowhere)
		u := d.start
		if d.letters[seq].Ask.Kind == api.AskLay {
			u = none
		}
		d.sent(to{shard, askPush("d", u)})
		return d, d.seq
	}
}

// ending answers from's Push with the end of who locked, and what is asked then is the letter to be answered.
func ending(from func(t *testing.T) (*desk, uint32), shard int, r api.Reply, q api.Request) func(t *testing.T) (*desk, uint32) {
	return func(t *testing.T) (*desk, uint32) {
		d, seq := from(t)
		d.hear(seq, r, nowhere)
		d.sent(to{shard, q})
		return d, d.seq
	}
}

// always answers one doing for all answers but errors.
func always(f func(d *desk, hear func(api.Result))) map[int]func(d *desk, hear func(api.Result)) {
	m := map[int]func(d *desk, hear func(api.Result)){}
	for kind := 1; kind <= 10; kind++ {
		m[kind] = f
	}
	return m
}

type doings = map[int]func(d *desk, hear func(api.Result))

// readScenes answers those of Get and Scan.
func readScenes() []scene {
	getAgain := sending(func(d *desk) to { return to{2, d.askGet("a")} })
	scanAgain := sending(func(d *desk) to { return to{1, d.askScan("a", "d")} })
	// Of three shards d lives on the first.
	pushGet, pushScan := locking(getting, 3), locking(scanning, 0)
	return []scene{
		{"get", getting, doings{
			api.SaidValue:  func(d *desk, hear func(api.Result)) { hear(d.gotValue("told")); d.quiet(true); d.sent(); d.runs() },
			api.SaidLocked: sending(func(d *desk) to { return to{3, askPush("d", at(50))} }),
		}, failing},
		{"scan", scanning, doings{
			api.SaidPairs: func(d *desk, hear func(api.Result)) {
				hear(d.gotPairs("a", "a", "b", "b", "c", "cx"))
				d.quiet(true)
				d.sent()
				d.runs()
			},
			api.SaidLocked: sending(func(d *desk) to { return to{0, askPush("d", at(50))} }),
		}, failing},
		{"push for get", pushGet, doings{
			api.SaidCommitted: sending(func(*desk) to { return to{2, applyWho} }),
			api.SaidUndone:    sending(func(*desk) to { return to{2, undoWho} }),
			api.SaidPushed:    sending(func(d *desk) to { return to{2, d.askGet("a", who)} }),
		}, failing},
		{"push for scan", pushScan, doings{
			api.SaidCommitted: sending(func(*desk) to { return to{1, applyWho} }),
			api.SaidUndone:    sending(func(*desk) to { return to{1, undoWho} }),
			api.SaidPushed:    sending(func(d *desk) to { return to{1, d.askScan("a", "d", who)} }),
		}, failing},
		{"apply for get", ending(pushGet, 2, committed(at(45)), applyWho), always(getAgain), failing},
		{"undo for get", ending(pushGet, 2, undone(), undoWho), always(getAgain), failing},
		{"apply for scan", ending(pushScan, 1, committed(at(45)), applyWho), always(scanAgain), failing},
		{"undo for scan", ending(pushScan, 1, undone(), undoWho), always(scanAgain), failing},
	}
}

// writeScenes answers those of Commit.
func writeScenes() []scene {
	layAgain := sending(func(d *desk) to { return to{1, d.askLay("a", "b")} })
	pushLay := locking(layingTwo, 3)
	decidingTwo := func(t *testing.T) (*desk, uint32) { d := deciding(t, 4, "a", "b"); return d, d.seq }
	undoing := func(d *desk, hear func(api.Result), err api.Errno) {
		sending(func(d *desk) to { return to{2, d.askUndo()} })(d, hear)
		// The error of Decide is told, whatever Undo's is.
		d.hear(d.seq, refused(api.ErrDown), nowhere)
		d.sent(to{2, d.askUndo()})
		givingUp(d, func(want api.Result) { d.hear(d.seq, undone(), want) }, err)
	}
	revoking := func(t *testing.T) (*desk, uint32) {
		d := deciding(t, 4, "a", "b")
		d.hear(d.seq, refused(77), nowhere)
		d.sent(to{2, d.askUndo()})
		return d, d.seq
	}
	return []scene{
		{"lay", layingTwo, doings{
			api.SaidLaid:      sending(func(d *desk) to { return to{2, d.askDecide(at(60), "a", 6)} }),
			api.SaidLocked:    sending(func(*desk) to { return to{3, askPush("d", none)} }),
			api.SaidConflict:  givingUpWith(api.ErrBusy),
			api.SaidCommitted: givingUpWith(api.ErrNone),
			api.SaidUndone:    givingUpWith(api.ErrNone),
		}, givingUp},
		{"push for lay", pushLay, doings{
			api.SaidCommitted: sending(func(*desk) to { return to{1, applyWho} }),
			api.SaidUndone:    sending(func(*desk) to { return to{1, undoWho} }),
			api.SaidPushed:    givingUpWith(api.ErrBusy),
		}, givingUp},
		{"apply for lay", ending(pushLay, 1, committed(at(45)), applyWho), always(layAgain), givingUp},
		{"undo for lay", ending(pushLay, 1, undone(), undoWho), always(layAgain), givingUp},
		{"decide", decidingTwo, doings{
			api.SaidCommitted: succeeding,
			api.SaidLow:       sending(func(d *desk) to { return to{2, d.askDecide(at(60), "a", 6)} }),
			api.SaidUndone:    givingUpWith(api.ErrNone),
		}, undoing},
		{"undo behind decide", revoking, doings{
			api.SaidCommitted: succeeding,
			api.SaidUndone:    givingUpWith(77),
		}, func(d *desk, hear func(api.Result), _ api.Errno) {
			sending(func(d *desk) to { return to{2, d.askUndo()} })(d, hear)
			givingUp(d, func(want api.Result) { d.hear(d.seq, undone(), want) }, 77)
		}},
	}
}

// choreScenes answers those of what no op waits for.
func choreScenes() []scene {
	// A chore that an error was answered to stays; one that something else was answered to is over.
	over := func(d *desk, hear func(api.Result)) { idle(d, hear); d.quiet(true); d.s.Again(); d.sent() }
	stays := func(d *desk, hear func(api.Result), _ api.Errno) {
		idle(d, hear)
		d.quiet(false)
		seq := d.seq
		d.s.Again()
		d.resent(seq)
		idle(d, hear)
		d.s.Again()
		d.resent(seq)
		d.quiet(false)
		d.hear(seq, said(api.SaidLow), nowhere)
		d.quiet(true)
		d.sent()
	}
	undo := func(t *testing.T) (*desk, uint32) {
		d := laying(t, 4, "b")
		d.hear(1, said(api.SaidConflict), d.gotErr(api.GotAborted, api.ErrBusy))
		d.sent(to{1, d.askUndo()})
		return d, d.seq
	}
	done := func(t *testing.T) (*desk, uint32) {
		d := deciding(t, 4, "b")
		d.hear(2, committed(at(45)), d.gotAt(api.GotCommitted, at(45)))
		d.sent(to{1, d.askDone()})
		return d, d.seq
	}
	apply := func(t *testing.T) (*desk, uint32) {
		d := deciding(t, 4, "b", "a")
		d.hear(3, committed(at(45)), d.gotAt(api.GotCommitted, at(45)))
		d.sent(to{1, d.askApply(at(45))})
		return d, d.seq
	}
	applied := always(over)
	applied[api.SaidFine] = func(d *desk, hear func(api.Result)) {
		hear(nowhere)
		d.quiet(false)
		d.sent(to{2, d.askDone()})
	}
	return []scene{{"chore undo", undo, always(over), stays}, {"chore done", done, always(over), stays}, {"chore apply", apply, applied, stays}}
}

// replyOf answers one of a Kind, with all that any of that Kind may tell.
func replyOf(kind int, err api.Errno) api.Reply {
	return api.Reply{
		Kind: kind, Err: err, Found: true, Val: "told", Pairs: []api.Pair{{Key: "c", Val: "cx"}, {Key: "b", Val: "later"}},
		Who: who, Start: at(40), At: at(45), Primary: "d",
	}
}

// TestEachAnswer: of each request each Kind of answer, with each error and with none.
func TestEachAnswer(t *testing.T) {
	errs := []api.Errno{api.OK, 1, 2, 3, 4, 5, 10, 11, 12, 20, 21, 30, 40, 41, 42, 50, 77, 255}
	for _, c := range slices.Concat(readScenes(), writeScenes(), choreScenes()) {
		for kind := range 11 {
			for _, err := range errs {
				t.Run(fmt.Sprintf("%s, answer %d, error %d", c.name, kind, err), func(t *testing.T) {
					d, seq := c.make(t)
					hear := func(want api.Result) { t.Helper(); d.hear(seq, replyOf(kind, err), want) }
					if do, ok := c.told[kind]; ok {
						do(d, hear)
					} else if kind == api.SaidError && err != api.OK {
						c.rest(d, hear, err)
					} else {
						c.rest(d, hear, api.ErrForm)
					}
					// It is answered: once more it is nothing.
					d.hear(seq, replyOf(kind, err), nowhere)
					d.sent()
				})
			}
		}
	}
}

// TestLockedAgain: what was locked is asked again till it isn't; what it skips stays.
func TestLockedAgain(t *testing.T) {
	d, _ := getting(t)
	d.hear(1, locked(who, "d"), nowhere)
	d.sent(to{3, askPush("d", at(50))})
	d.hear(2, pushed(), nowhere)
	d.sent(to{2, d.askGet("a", who)})
	// By another one, whose primary lives elsewhere, and since another stamp.
	d.hear(3, api.Reply{Kind: api.SaidLocked, Who: other, Start: at(8, 9), Primary: "c"}, nowhere)
	d.sent(to{0, api.Request{Kind: api.AskPush, By: other, Start: at(8, 9), Key: "c", At: at(50)}})
	d.hear(4, undone(), nowhere)
	d.sent(to{2, api.Request{Kind: api.AskUndo, By: other, Start: at(8, 9)}})
	d.hear(5, undone(), nowhere)
	d.sent(to{2, d.askGet("a", who)})
	d.hear(6, api.Reply{Kind: api.SaidLocked, Who: api.Txn{}, Primary: "a"}, nowhere)
	d.sent(to{2, api.Request{Kind: api.AskPush, Key: "a", At: at(50)}})
	d.hear(7, committed(none), nowhere)
	d.sent(to{2, api.Request{Kind: api.AskApply}})
	d.hear(8, fine(), nowhere)
	d.sent(to{2, d.askGet("a", who)})
	d.hear(9, locked(other, "d"), nowhere)
	d.sent(to{3, api.Request{Kind: api.AskPush, By: other, Start: at(40), Key: "d", At: at(50)}})
	d.hear(10, pushed(), nowhere)
	d.sent(to{2, d.askGet("a", who, other)})
	d.hear(11, value("x"), d.gotValue("x"))
	d.quiet(true)
	// The next one skips nobody.
	d.do(get("a"), nowhere)
	d.sent(to{2, d.askGet("a")})
}

// TestLocksOfAScan: each shard's request has its own Skips, and goes its own way.
func TestLocksOfAScan(t *testing.T) {
	d := begun(t, 1, 3, 50)
	d.do(scan("", "", 9), nowhere)
	q := d.askScan("", "")
	d.sent(to{0, q}, to{1, q}, to{2, q})
	d.hear(2, locked(who, "d"), nowhere)
	d.sent(to{0, askPush("d", at(50))})
	d.hear(1, locked(who, "d"), nowhere)
	d.sent(to{0, askPush("d", at(50))})
	d.hear(4, pushed(), nowhere)
	d.sent(to{1, d.askScan("", "", who)})
	d.hear(3, pairs("3", "a"), nowhere)
	d.hear(5, committed(at(45)), nowhere)
	d.sent(to{0, applyWho})
	d.hear(6, locked(other, "d"), nowhere)
	d.sent(to{0, api.Request{Kind: api.AskPush, By: other, Start: at(40), Key: "d", At: at(50)}})
	d.hear(7, fine(), nowhere)
	d.sent(to{0, q})
	d.hear(8, pushed(), nowhere)
	d.sent(to{1, d.askScan("", "", who, other)})
	d.hear(10, pairs("10", "b", "a"), nowhere)
	d.sent()
	d.hear(9, pairs("9", "c", "b"), d.gotPairs("a", "a3", "b", "b10", "c", "c9"))
	d.quiet(true)
	d.runs()
}

// TestLocksOfALay: parts are laid when each has been, whatever was in the way of some.
func TestLocksOfALay(t *testing.T) {
	d := laying(t, 4, "a", "b", "c")
	d.hear(1, locked(who, "d"), nowhere)
	d.sent(to{3, askPush("d", none)})
	d.hear(3, locked(who, "a"), nowhere)
	d.sent(to{2, askPush("a", none)})
	d.hear(2, laid(at(70)), nowhere)
	d.hear(5, undone(), nowhere)
	d.sent(to{2, undoWho})
	d.hear(4, committed(at(45)), nowhere)
	d.sent(to{0, applyWho})
	d.hear(6, undone(), nowhere)
	d.sent(to{2, d.askLay("a", "a")})
	d.hear(7, fine(), nowhere)
	d.sent(to{0, d.askLay("a", "c")})
	d.hear(9, laid(at(65)), nowhere)
	d.sent()
	d.hear(8, laid(at(60)), nowhere)
	d.sent(to{2, d.askDecide(at(70), "a", 7)})
}

// TestNoPrimary: a lock whose primary has no home can't be pushed.
func TestNoPrimary(t *testing.T) {
	d, seq := getting(t)
	failing(d, func(want api.Result) { d.hear(seq, locked(who, ""), want) }, api.ErrArg)
	d, seq = scanning(t)
	failing(d, func(want api.Result) { d.hear(seq, locked(who, ""), want) }, api.ErrArg)
	d, seq = layingTwo(t)
	givingUp(d, func(want api.Result) { d.hear(seq, locked(who, ""), want) }, api.ErrArg)
}

// TestPrimaries: the home of a lock's primary is asked, whichever it is.
func TestPrimaries(t *testing.T) {
	for shards := 1; shards <= maxShards; shards++ {
		for _, primary := range []string{"a", "b", "\x00", "\xff", "long long long long long long keys"[:maxKey], "k1", "k2", "k3"} {
			d := begun(t, 1, shards, 50)
			d.do(get("k9"), nowhere)
			d.sent(to{homeOf("k9", shards), d.askGet("k9")})
			d.hear(1, locked(who, primary), nowhere)
			d.sent(to{homeOf(primary, shards), askPush(primary, at(50))})
			d.hear(2, undone(), nowhere)
			d.sent(to{homeOf("k9", shards), undoWho})
		}
	}
}

// TestMaxSkips: 16 may be passed over, and one more not.
func TestMaxSkips(t *testing.T) {
	for _, isScan := range []bool{false, true} {
		d := begun(t, 1, 1, 50)
		o, q := get("a"), d.askGet("a")
		if isScan {
			o, q = scan("", "", 9), d.askScan("", "")
		}
		lock := func(by api.Txn) {
			d.hear(d.seq, locked(by, "d"), nowhere)
			p := askPush("d", at(50))
			p.By = by
			d.sent(to{0, p})
		}
		for range 2 {
			d.do(o, nowhere)
			q.Skips = nil
			d.sent(to{0, q})
			for n := range maxSkips {
				by := api.Txn{Client: uint32(n % 3), N: uint32(n / 2)}
				lock(by)
				d.hear(d.seq, pushed(), nowhere)
				q.Skips = append(slices.Clone(q.Skips), by)
				d.sent(to{0, q})
			}
			// One that has ended needs no place among them.
			lock(who)
			d.hear(d.seq, undone(), nowhere)
			d.sent(to{0, undoWho})
			d.hear(d.seq, undone(), nowhere)
			d.sent(to{0, q})
			lock(who)
			d.hear(d.seq, pushed(), d.gotErr(api.GotError, api.ErrMore))
			d.runs()
			d.quiet(true)
			d.sent()
		}
		// With 16 of them it may be answered.
		d.do(o, nowhere)
		q.Skips = nil
		d.sent(to{0, q})
		for range maxSkips {
			lock(who)
			d.hear(d.seq, pushed(), nowhere)
			// One that is met again is one more.
			q.Skips = append(slices.Clone(q.Skips), who)
			d.sent(to{0, q})
		}
		if isScan {
			d.hear(d.seq, pairs("", "a"), d.gotPairs("a", "a"))
		} else {
			d.hear(d.seq, value("x"), d.gotValue("x"))
		}
	}
}

// TestFailedScan: when one shard refuses, what was asked of the others is no more.
func TestFailedScan(t *testing.T) {
	for last := range 3 {
		d := begun(t, 1, 3, 50)
		d.do(scan("", "", 9), nowhere)
		q := d.askScan("", "")
		d.sent(to{0, q}, to{1, q}, to{2, q})
		d.hear(uint32(last+1), refused(api.ErrOld), d.gotErr(api.GotError, api.ErrOld))
		d.runs()
		d.quiet(true)
		for n := range 3 {
			d.hear(uint32(n+1), pairs("", "a"), nowhere)
			d.hear(uint32(n+1), locked(who, "a"), nowhere)
		}
		d.s.Again()
		d.sent()
		// What another scan is told isn't mixed with it.
		d.do(scan("", "", 9), nowhere)
		d.sent(to{0, q}, to{1, q}, to{2, q})
		d.hear(4, pairs("", "b"), nowhere)
		d.hear(5, pairs(""), nowhere)
		d.hear(6, pairs("", "c"), d.gotPairs("b", "b", "c", "c"))
	}
}

// TestGivenUp: whatever parts have been told or have answered, each is told to undo, and no answer to the rest counts.
func TestGivenUp(t *testing.T) {
	for hears := range 4 {
		d := laying(t, 4, "a", "b", "c", "d")
		for n := range hears {
			d.hear(uint32(n+1), laid(at(60)), nowhere)
		}
		d.hear(4, refused(api.ErrFull), d.gotErr(api.GotAborted, api.ErrFull))
		d.ended()
		u := d.askUndo()
		d.sent(to{0, u}, to{1, u}, to{2, u}, to{3, u})
		for n := range 4 {
			d.hear(uint32(n+1), laid(at(60)), nowhere)
			d.hear(uint32(n+1), locked(who, "a"), nowhere)
		}
		d.sent()
		// The next transaction begins beside the chores.
		d.begin(70)
		d.do(put("a", "x"), d.got(api.GotFine))
		d.do(commit, nowhere)
		q := d.askLay("a")
		q.Writes = []api.Write{{Key: "a", Val: "x"}}
		d.sent(to{2, q})
		d.hear(7, undone(), nowhere)
		d.hear(9, laid(at(71)), nowhere)
		d.sent(to{2, d.askDecide(at(71), "a", 4)})
		d.hear(5, undone(), nowhere)
		d.hear(6, undone(), nowhere)
		d.hear(10, committed(at(71)), d.gotAt(api.GotCommitted, at(71)))
		d.sent(to{2, d.askDone()})
		d.s.Again()
		d.resent(8, 11)
	}
}

// TestLow: the stamp to decide by rises, and never sinks.
func TestLow(t *testing.T) {
	d := deciding(t, 4, "a", "b")
	most := at(60)
	for _, u := range []api.Ts{at(59), none, at(60), at(60, 1), at(60, 1), at(900), at(61), at(899, 4095), greatest, at(1)} {
		d.hear(d.seq, low(u), nowhere)
		d.runs()
		most = later(most, u)
		d.sent(to{2, d.askDecide(most, "a", 6)})
	}
	d.hear(d.seq, committed(at(60, 1)), d.gotAt(api.GotCommitted, at(60, 1)))
}

// TestRevokeAgain: behind an error of Decide Undo is asked till its answer tells.
func TestRevokeAgain(t *testing.T) {
	for _, isCommitted := range []bool{false, true} {
		d := deciding(t, 4, "a", "b")
		d.hear(d.seq, low(at(80)), nowhere)
		d.sent(to{2, d.askDecide(at(80), "a", 6)})
		d.hear(d.seq, refused(api.ErrFull), nowhere)
		for kind := range 11 {
			d.sent(to{2, d.askUndo()})
			d.runs()
			d.quiet(false)
			if kind != api.SaidCommitted && kind != api.SaidUndone {
				d.hear(d.seq, replyOf(kind, api.ErrDown), nowhere)
			} else {
				d.hear(d.seq, refused(api.ErrArg), nowhere)
			}
		}
		d.sent(to{2, d.askUndo()})
		if isCommitted {
			d.hear(d.seq, committed(at(85)), d.gotAt(api.GotCommitted, at(85)))
			d.ended()
			d.sent(to{1, d.askApply(at(85))})
		} else {
			d.hear(d.seq, undone(), d.gotErr(api.GotAborted, api.ErrFull))
			d.undoes(1, 2)
		}
	}
}

// TestDone: it is asked when all parts know, and not before.
func TestDone(t *testing.T) {
	for _, order := range orders(3) {
		d := deciding(t, 4, "a", "b", "c", "d")
		d.hear(5, committed(at(60)), d.gotAt(api.GotCommitted, at(60)))
		a := d.askApply(at(60))
		d.sent(to{0, a}, to{1, a}, to{3, a})
		// One of them is refused at first, and is asked again.
		last := uint32(6 + order[2])
		d.hear(last, refused(api.ErrFull), nowhere)
		d.hear(uint32(6+order[0]), fine(), nowhere)
		d.hear(uint32(6+order[1]), fine(), nowhere)
		d.sent()
		d.quiet(false)
		d.hear(last, refused(api.ErrSkew), nowhere)
		d.sent()
		d.s.Again()
		d.resent(last)
		d.s.Again()
		d.resent(last)
		d.hear(last, fine(), nowhere)
		d.sent(to{2, d.askDone()})
		d.hear(last, fine(), nowhere)
		d.sent()
		d.hear(9, refused(api.ErrDown), nowhere)
		d.quiet(false)
		d.s.Again()
		d.resent(9)
		d.hear(9, fine(), nowhere)
		d.quiet(true)
		d.s.Again()
		d.sent()
	}
}

// TestOddApply: an Apply with another answer is over; Done is asked by a Fine behind which none is left.
func TestOddApply(t *testing.T) {
	for kind := 1; kind <= 10; kind++ {
		if kind == api.SaidFine {
			continue
		}
		d := deciding(t, 4, "a", "b", "c")
		d.hear(4, committed(at(60)), d.gotAt(api.GotCommitted, at(60)))
		d.sent(to{0, d.askApply(at(60))}, to{1, d.askApply(at(60))})
		d.hear(5, said(kind), nowhere)
		d.sent()
		d.hear(6, fine(), nowhere)
		d.sent(to{2, d.askDone()})
		d = deciding(t, 4, "a", "b", "c")
		d.hear(4, committed(at(60)), d.gotAt(api.GotCommitted, at(60)))
		d.sent(to{0, d.askApply(at(60))}, to{1, d.askApply(at(60))})
		d.hear(6, fine(), nowhere)
		d.sent()
		d.quiet(false)
		d.hear(5, said(kind), nowhere)
		d.sent()
		d.quiet(true)
	}
}

// TestChoresBeside: of two transactions each has its own chores, and an Apply for an op is none of them.
func TestChoresBeside(t *testing.T) {
	d := deciding(t, 4, "a", "b", "c")
	first := d.by
	d.hear(4, committed(at(60)), d.gotAt(api.GotCommitted, at(60)))
	d.sent(to{0, d.askApply(at(60))}, to{1, d.askApply(at(60))})
	d.begin(70)
	for _, k := range []string{"a", "c", "d"} {
		d.do(put(k, k), d.got(api.GotFine))
	}
	d.do(commit, nowhere)
	d.sent(to{0, d.askLay("a", "c")}, to{2, d.askLay("a", "a")}, to{3, d.askLay("a", "d")})
	// The second one meets what the first one has laid.
	d.hear(7, locked(first, "a"), nowhere)
	d.sent(to{2, api.Request{Kind: api.AskPush, By: first, Start: at(40), Key: "a"}})
	d.hear(10, committed(at(60)), nowhere)
	d.sent(to{0, api.Request{Kind: api.AskApply, By: first, At: at(60)}})
	d.hear(6, fine(), nowhere)
	d.hear(5, fine(), nowhere)
	// The Apply that the second one waits for isn't one of the first one's chores.
	d.sent(to{2, api.Request{Kind: api.AskDone, By: first}})
	d.hear(11, fine(), nowhere)
	d.sent(to{0, d.askLay("a", "c")})
	d.hear(13, laid(at(71)), nowhere)
	d.hear(8, laid(at(71)), nowhere)
	d.hear(9, laid(at(71)), nowhere)
	d.sent(to{2, d.askDecide(at(71), "a", 13)})
	d.hear(12, refused(api.ErrDown), nowhere)
	d.hear(14, committed(at(71)), d.gotAt(api.GotCommitted, at(71)))
	d.sent(to{0, d.askApply(at(71))}, to{3, d.askApply(at(71))})
	d.s.Again()
	d.resent(12, 15, 16)
	d.hear(15, fine(), nowhere)
	d.hear(12, fine(), nowhere)
	d.sent()
	d.hear(16, fine(), nowhere)
	d.sent(to{2, d.askDone()})
	d.hear(17, fine(), nowhere)
	d.quiet(true)
}

func TestGive(t *testing.T) {
	d := newDesk(t, 1, 4)
	d.give(api.Result{Kind: api.GotError, Err: api.ErrIdle})
	for _, from := range []func(t *testing.T) (*desk, uint32){getting, scanning, locking(getting, 3), locking(scanning, 0)} {
		d, seq := from(t)
		failing(d, func(want api.Result) { d.give(want) }, api.ErrLost)
		d.hear(seq, value("x"), nowhere)
		d.hear(seq, undone(), nowhere)
		d.do(get("a"), d.gotValue("x"))
		d.sent()
	}
	for _, from := range []func(t *testing.T) (*desk, uint32){layingTwo, locking(layingTwo, 3)} {
		d, seq := from(t)
		givingUp(d, func(want api.Result) { d.give(want) }, api.ErrLost)
		d.hear(seq, laid(at(60)), nowhere)
		d.hear(seq, undone(), nowhere)
		d.sent()
	}
}

// TestGiveBehindDecide: then it isn't known, and nothing is asked any more.
func TestGiveBehindDecide(t *testing.T) {
	for n := range 4 {
		d := deciding(t, 4, "a", "b")
		if n > 0 {
			d.hear(3, low(at(80)), nowhere)
			d.sent(to{2, d.askDecide(at(80), "a", 6)})
		}
		if n > 1 {
			d.hear(4, refused(api.ErrFull), nowhere)
			d.sent(to{2, d.askUndo()})
		}
		if n > 2 {
			d.hear(5, refused(api.ErrDown), nowhere)
			d.sent(to{2, d.askUndo()})
		}
		d.give(d.gotErr(api.GotUnknown, api.ErrLost))
		d.ended()
		d.quiet(true)
		d.sent()
		d.hear(d.seq, committed(at(80)), nowhere)
		d.give(api.Result{Kind: api.GotError, Err: api.ErrIdle})
		d.s.Again()
		d.sent()
		d.quiet(true)
		// The next commit may be given up again.
		d.beginAt(0, at(50, 1))
		d.do(put("b", "b"), d.got(api.GotFine))
		d.do(commit, nowhere)
		d.sent(to{1, d.askLay("b", "b")})
		d.give(d.gotErr(api.GotAborted, api.ErrLost))
		d.undoes(1)
	}
}

// TestGiveBesideChores: chores are no op's, and go on.
func TestGiveBesideChores(t *testing.T) {
	d := deciding(t, 4, "a", "b")
	d.hear(3, committed(at(60)), d.gotAt(api.GotCommitted, at(60)))
	d.sent(to{1, d.askApply(at(60))})
	done := d.askDone()
	d.give(api.Result{Kind: api.GotError, Err: api.ErrIdle})
	d.begin(70)
	d.give(d.gotErr(api.GotError, api.ErrIdle))
	d.do(get("d"), nowhere)
	d.sent(to{3, d.askGet("d")})
	d.give(d.gotErr(api.GotError, api.ErrLost))
	d.do(put("d", "d"), d.got(api.GotFine))
	d.do(commit, nowhere)
	d.sent(to{3, d.askLay("d", "d")})
	d.hear(6, laid(at(71)), nowhere)
	d.sent(to{3, d.askDecide(at(71), "d", 8)})
	d.give(d.gotErr(api.GotUnknown, api.ErrLost))
	d.quiet(false)
	d.s.Again()
	d.resent(4)
	d.hear(4, fine(), nowhere)
	d.sent(to{2, done})
	d.quiet(false)
}

// TestStrangers: letters that aren't the answer to an ask do nothing, not even to the clock.
func TestStrangers(t *testing.T) {
	right := func(d *desk) api.Letter {
		r := value("x")
		r.Now = at(60)
		return d.answer(1, r)
	}
	for name, spoil := range map[string]func(l *api.Letter){
		"no answer": func(l *api.Letter) { l.Answer = false },
		"a request": func(l *api.Letter) {
			*l = api.Letter{Client: 1, Shard: 2, Seq: 1, Ask: api.Request{Kind: api.AskGet, Key: "a"}}
		},
		"an answer that asks":  func(l *api.Letter) { l.Ask.Kind = api.AskGet },
		"an answer with a key": func(l *api.Letter) { l.Ask.Key = "a" },
		"another client":       func(l *api.Letter) { l.Client = 0 },
		"the next client":      func(l *api.Letter) { l.Client = 2 },
		"no client":            func(l *api.Letter) { l.Client = 4 },
		"a client far away":    func(l *api.Letter) { l.Client = math.MaxUint32 },
		"another shard":        func(l *api.Letter) { l.Shard = 1 },
		"the next shard":       func(l *api.Letter) { l.Shard = 3 },
		"a shard that isn't":   func(l *api.Letter) { l.Shard = 6 },
		"no shard":             func(l *api.Letter) { l.Shard = 8 },
		"no ask":               func(l *api.Letter) { l.Seq = 0 },
		"a later ask":          func(l *api.Letter) { l.Seq = 2 },
		"the last ask":         func(l *api.Letter) { l.Seq = math.MaxUint32 },
		"a Kind below":         func(l *api.Letter) { l.Reply.Kind = -1 },
		"a Kind beyond":        func(l *api.Letter) { l.Reply.Kind = 11 },
		"an error below":       func(l *api.Letter) { l.Reply.Err = -1 },
		"an error beyond":      func(l *api.Letter) { l.Reply.Err = 256 },
		"a long value":         func(l *api.Letter) { l.Reply.Val = string(make([]byte, maxVal+1)) },
		"a long primary":       func(l *api.Letter) { l.Reply.Primary = string(make([]byte, maxKey+1)) },
		"many pairs":           func(l *api.Letter) { l.Reply.Pairs = make([]api.Pair, maxScan+1) },
		"a pair's long key":    func(l *api.Letter) { l.Reply.Pairs = []api.Pair{{Key: string(make([]byte, maxKey+1))}} },
		"a wrong start":        func(l *api.Letter) { l.Reply.Start.P = maxPhys + 1 },
		"a wrong stamp":        func(l *api.Letter) { l.Reply.At.L = maxLogic + 1 },
		"a wrong now":          func(l *api.Letter) { l.Reply.Now.P = maxPhys + 1 },
		"a wrong now's part":   func(l *api.Letter) { l.Reply.Now.L = maxLogic + 1 },
	} {
		for _, isChore := range []bool{false, true} {
			d := begun(t, 1, 4, 50)
			d.do(get("a"), nowhere)
			d.sent(to{2, d.askGet("a")})
			l := right(d)
			if isChore {
				d = laying(t, 4, "a")
				d.give(d.gotErr(api.GotAborted, api.ErrLost))
				d.sent(to{2, d.askUndo()})
				l.Seq = 2
			}
			spoil(&l)
			if isChore && (name == "no ask" || name == "a later ask") {
				l.Seq++
			}
			d.expect(name, d.s.Hear(l), nowhere)
			d.quiet(false)
			d.sent()
			if isChore {
				d.hear(2, undone(), nowhere)
			} else {
				d.runs()
				d.hear(1, value("y"), d.gotValue("y"))
				d.do(abort, d.got(api.GotFine))
			}
			d.quiet(true)
			d.beginAt(0, at(50, 1))
		}
	}
	// And as it is, it is heard, once.
	d := begun(t, 1, 4, 50)
	d.do(get("a"), nowhere)
	d.sent(to{2, d.askGet("a")})
	d.expect("right", d.s.Hear(right(d)), d.gotValue("x"))
	l := right(d)
	l.Reply.Now = at(500)
	for range 3 {
		d.expect("again", d.s.Hear(l), nowhere)
	}
	d.do(abort, d.got(api.GotFine))
	d.beginAt(0, at(60, 1))
}

// TestOthersShard: of two asks under way each is answered by its own shard alone.
func TestOthersShard(t *testing.T) {
	d := begun(t, 1, 2, 50)
	d.do(scan("", "", 9), nowhere)
	q := d.askScan("", "")
	d.sent(to{0, q}, to{1, q})
	for range 3 {
		for seq := range uint32(5) {
			for shard := range uint32(9) {
				if seq == shard+1 && shard < 2 {
					continue
				}
				d.expect("another shard", d.s.Hear(api.Letter{Client: 1, Shard: shard, Seq: seq, Answer: true, Reply: pairs("", "a")}), nowhere)
			}
		}
	}
	d.hear(2, pairs("", "b"), nowhere)
	d.hear(1, pairs("", "c"), d.gotPairs("b", "b", "c", "c"))
}

// TestClock: it goes with what shards tell, and with the stamp of a commit, and never back.
func TestClock(t *testing.T) {
	with := func(r api.Reply, now api.Ts) api.Reply {
		r.Now = now
		return r
	}
	d := newDesk(t, 1, 1)
	d.beginAt(0, at(0, 1))
	d.do(get("a"), nowhere)
	d.sent(to{0, d.askGet("a")})
	d.hear(d.seq, with(value("x"), at(20, 3)), d.gotValue("x"))
	// The transaction reads where it began.
	d.do(get("a"), nowhere)
	d.sent(to{0, d.askGet("a")})
	d.hear(d.seq, with(value("x"), at(10)), d.gotValue("x"))
	d.do(abort, d.got(api.GotFine))
	d.beginAt(5, at(20, 4))
	d.do(abort, d.got(api.GotFine))
	d.beginAt(21, at(21))
	d.do(put("a", "a"), d.got(api.GotFine))
	d.do(commit, nowhere)
	d.sent(to{0, d.askLay("a", "a")})
	// A stamp to commit by isn't one of the clock's, but Now is.
	d.hear(d.seq, with(laid(at(90)), at(30)), nowhere)
	d.sent(to{0, d.askDecide(at(90), "a", 1)})
	d.hear(d.seq, with(low(at(95)), at(29)), nowhere)
	d.sent(to{0, d.askDecide(at(95), "a", 1)})
	d.hear(d.seq, with(refused(api.ErrFull), at(40)), nowhere)
	d.sent(to{0, d.askUndo()})
	d.hear(d.seq, with(undone(), at(35)), d.gotErr(api.GotAborted, api.ErrFull))
	d.sent(to{0, d.askUndo()})
	d.beginAt(0, at(40, 1))
	// Of chores likewise, also of an error.
	d.hear(d.seq, with(refused(api.ErrDown), at(50)), nowhere)
	d.hear(d.seq, with(undone(), at(51)), nowhere)
	d.do(abort, d.got(api.GotFine))
	d.beginAt(0, at(51, 1))
	for _, c := range []struct{ by, now, next api.Ts }{
		{at(60, 5), none, at(60, 6)}, {at(70), at(71), at(71, 1)}, {at(80), at(79), at(80, 1)}, {at(3), none, at(80, 4)},
	} {
		d.do(put("a", "a"), d.got(api.GotFine))
		d.do(commit, nowhere)
		d.sent(to{0, d.askLay("a", "a")})
		d.hear(d.seq, laid(at(3)), nowhere)
		d.sent(to{0, d.askDecide(at(3), "a", 1)})
		d.hear(d.seq, with(committed(c.by), c.now), d.gotAt(api.GotCommitted, c.by))
		d.sent(to{0, d.askDone()})
		d.hear(d.seq, fine(), nowhere)
		if c.by == at(3) {
			// Two have begun since the clock showed {80 1}, and were aborted.
			for n := range uint32(2) {
				d.beginAt(0, at(80, 2+n))
				d.do(abort, d.got(api.GotFine))
			}
		}
		d.beginAt(0, c.next)
	}
}

// TestAgain: all letters that aren't answered, by their numbers, as often as is asked for, behind those that are to be sent.
func TestAgain(t *testing.T) {
	d := wrote(t, 4, "a", "b", "c")
	d.s.Again()
	d.sent()
	d.do(commit, nowhere)
	d.s.Again()
	d.s.Again()
	lays := []to{{0, d.askLay("a", "c")}, {1, d.askLay("a", "b")}, {2, d.askLay("a", "a")}}
	for i, l := range lays {
		d.letters[uint32(i+1)] = api.Letter{Client: 1, Shard: uint32(l.shard), Seq: uint32(i + 1), Ask: l.ask}
	}
	d.seq = 3
	d.resent(1, 2, 3, 1, 2, 3, 1, 2, 3)
	d.hear(2, laid(at(60)), nowhere)
	d.s.Again()
	d.resent(1, 3)
	d.hear(1, locked(who, "d"), nowhere)
	d.s.Again()
	d.letters[4] = api.Letter{Client: 1, Shard: 3, Seq: 4, Ask: askPush("d", none)}
	d.seq = 4
	d.resent(4, 3, 4)
	d.s.Again()
	d.resent(3, 4)
	// What is to be sent is sent, be it answered by then or not.
	d.s.Again()
	d.hear(3, laid(at(60)), nowhere)
	d.give(d.gotErr(api.GotAborted, api.ErrLost))
	for n := range 3 {
		d.letters[uint32(n+5)] = api.Letter{Client: 1, Shard: uint32(n), Seq: uint32(n + 5), Ask: d.askUndo()}
	}
	d.resent(3, 4, 5, 6, 7)
	d.hear(6, refused(api.ErrDown), nowhere)
	d.hear(5, undone(), nowhere)
	d.s.Again()
	d.resent(6, 7)
	d.hear(7, refused(api.ErrDown), nowhere)
	d.hear(6, undone(), nowhere)
	d.s.Again()
	d.resent(7)
	d.hear(7, undone(), nowhere)
	d.s.Again()
	d.sent()
	d.quiet(true)
}

// TestTwoSessions: what is done with one changes nothing of the other.
func TestTwoSessions(t *testing.T) {
	a, b := begun(t, 1, 4, 50), begun(t, 1, 4, 60)
	c := newDesk(t, 2, 4)
	a.do(put("a", "1"), a.got(api.GotFine))
	b.do(put("a", "2"), b.got(api.GotFine))
	a.do(get("a"), a.gotValue("1"))
	b.do(get("b"), nowhere)
	a.sent()
	c.ended()
	c.quiet(true)
	a.quiet(true)
	b.sent(to{1, b.askGet("b")})
	c.begin(5)
	a.do(get("b"), nowhere)
	a.sent(to{1, a.askGet("b")})
	b.hear(1, value("x"), b.gotValue("x"))
	a.quiet(false)
	c.expect("of another client", c.s.Hear(a.answer(1, value("y"))), nowhere)
	a.do(commit, a.gotErr(api.GotError, api.ErrBusy))
	b.do(commit, nowhere)
	a.hear(1, value("y"), a.gotValue("y"))
	b.s.Again()
	a.sent()
	c.sent()
	b.give(b.gotErr(api.GotAborted, api.ErrLost))
	a.runs()
	c.runs()
	a.do(get("a"), a.gotValue("1"))
}
