package session_test

import (
	"fmt"
	"math"
	"slices"
	"strings"
	"testing"

	"dovecote/api"
	"dovecote/letter"
	"dovecote/session"
)

// desk is a session at which each answer, and each letter that is sent, is looked at.
type desk struct {
	*testing.T
	s       *session.Session
	client  int
	by      api.Txn // of the transaction
	start   api.Ts
	seq     uint32 // of the last new letter
	letters map[uint32]api.Letter
}

// to is a request, and to which shard.
type to struct {
	shard int
	ask   api.Request
}

func newDesk(t *testing.T, client, shards int) *desk {
	t.Helper()
	return &desk{T: t, s: opened(t, client, shards), client: client, letters: map[uint32]api.Letter{}}
}

// begun answers a desk with a transaction that reads since start.
func begun(t *testing.T, client, shards int, start uint64) *desk {
	t.Helper()
	d := newDesk(t, client, shards)
	d.begin(start)
	return d
}

// wrote answers a desk with a transaction that wrote keys with their own texts.
func wrote(t *testing.T, shards int, keys ...string) *desk {
	t.Helper()
	d := begun(t, 1, shards, 50)
	for _, k := range keys {
		d.do(put(k, k), d.got(api.GotFine))
	}
	return d
}

// laying answers a desk with a Commit under way, whose letters are sent.
func laying(t *testing.T, shards int, keys ...string) *desk {
	t.Helper()
	d := wrote(t, shards, keys...)
	d.do(commit, nowhere)
	for _, l := range d.s.Out() {
		d.seq++
		d.letters[l.Seq] = l
	}
	return d
}

// deciding answers a desk with a Commit under way that all parts have laid, by 60 at least.
func deciding(t *testing.T, shards int, keys ...string) *desk {
	t.Helper()
	d := laying(t, shards, keys...)
	for n := range d.seq {
		d.hear(n+1, laid(at(60)), nowhere)
	}
	l := d.s.Out()
	if len(l) != 1 || l[0].Ask.Kind != api.AskDecide {
		t.Fatalf("no Decide: %s", tellAll(l))
	}
	d.seq++
	d.letters[d.seq] = l[0]
	return d
}

func op(kind int) api.Op { return api.Op{Kind: kind} }

var (
	commit = op(api.OpCommit)
	abort  = op(api.OpAbort)
)

func put(key, val string) api.Op { return api.Op{Kind: api.OpPut, Key: key, Val: val} }

func del(key string) api.Op { return api.Op{Kind: api.OpDelete, Key: key} }

func get(key string) api.Op { return api.Op{Kind: api.OpGet, Key: key} }

func scan(from, to string, limit int) api.Op {
	return api.Op{Kind: api.OpScan, Key: from, To: to, Limit: limit}
}

// The replies.

func refused(err api.Errno) api.Reply { return api.Reply{Err: err} }

func said(kind int) api.Reply { return api.Reply{Kind: kind} }

func value(val string) api.Reply { return api.Reply{Kind: api.SaidValue, Found: true, Val: val} }

func laid(u api.Ts) api.Reply { return api.Reply{Kind: api.SaidLaid, At: u} }

func committed(u api.Ts) api.Reply { return api.Reply{Kind: api.SaidCommitted, At: u} }

func low(u api.Ts) api.Reply { return api.Reply{Kind: api.SaidLow, At: u} }

func undone() api.Reply { return api.Reply{Kind: api.SaidUndone} }

func fine() api.Reply { return api.Reply{Kind: api.SaidFine} }

func pushed() api.Reply { return api.Reply{Kind: api.SaidPushed, At: at(900)} }

// pairs answers pairs of keys, with their own texts and one behind them.
func pairs(behind string, keys ...string) api.Reply {
	r := api.Reply{Kind: api.SaidPairs}
	for _, k := range keys {
		r.Pairs = append(r.Pairs, api.Pair{Key: k, Val: k + behind})
	}
	return r
}

// locked answers a lock by who, who reads since 40.
func locked(who api.Txn, primary string) api.Reply {
	return api.Reply{Kind: api.SaidLocked, Who: who, Start: at(40), Primary: primary}
}

var (
	who   = api.Txn{Client: 3, N: 7}
	other = api.Txn{Client: math.MaxUint32, N: math.MaxUint32}
)

// The requests.

func (d *desk) askGet(key string, skips ...api.Txn) api.Request {
	return api.Request{Kind: api.AskGet, By: d.by, Start: d.start, Key: key, Skips: skips}
}

func (d *desk) askScan(from, to string, skips ...api.Txn) api.Request {
	return api.Request{Kind: api.AskScan, By: d.by, Start: d.start, Key: from, To: to, Limit: 32, Skips: skips}
}

// askLay asks for writes of keys with their own texts.
func (d *desk) askLay(primary string, keys ...string) api.Request {
	q := api.Request{Kind: api.AskLay, By: d.by, Start: d.start, Key: primary}
	for _, k := range keys {
		q.Writes = append(q.Writes, api.Write{Key: k, Val: k})
	}
	return q
}

func (d *desk) askDecide(u api.Ts, primary string, parts uint8) api.Request {
	return api.Request{Kind: api.AskDecide, By: d.by, Start: d.start, At: u, Key: primary, Parts: parts}
}

func (d *desk) askApply(u api.Ts) api.Request {
	return api.Request{Kind: api.AskApply, By: d.by, At: u}
}

func (d *desk) askUndo() api.Request {
	return api.Request{Kind: api.AskUndo, By: d.by, Start: d.start}
}

func (d *desk) askDone() api.Request { return api.Request{Kind: api.AskDone, By: d.by} }

// askPush asks about what locked tells of.
func askPush(primary string, u api.Ts) api.Request {
	return api.Request{Kind: api.AskPush, By: who, Start: at(40), Key: primary, At: u}
}

var (
	applyWho = api.Request{Kind: api.AskApply, By: who, At: at(45)}
	undoWho  = api.Request{Kind: api.AskUndo, By: who, Start: at(40)}
)

// The results, of the transaction that runs, or ran last.

func (d *desk) got(kind int) api.Result {
	return api.Result{Kind: kind, By: d.by, Start: d.start}
}

func (d *desk) gotErr(kind int, err api.Errno) api.Result {
	r := d.got(kind)
	r.Err = err
	return r
}

func (d *desk) gotAt(kind int, u api.Ts) api.Result {
	r := d.got(kind)
	r.At = u
	return r
}

func (d *desk) gotValue(val string) api.Result {
	r := d.got(api.GotValue)
	r.Found, r.Val = true, val
	return r
}

func (d *desk) gotPairs(l ...string) api.Result {
	r := d.got(api.GotPairs)
	for i := 0; i < len(l); i += 2 {
		r.Pairs = append(r.Pairs, api.Pair{Key: l[i], Val: l[i+1]})
	}
	return r
}

// expect holds a result against one that was written by hand.
func (d *desk) expect(what string, got, want api.Result) {
	d.Helper()
	if !sameResult(got, want) {
		d.Fatalf("%s:\n     %s\nwant %s", what, tell(got), tell(want))
	}
}

func (d *desk) do(op api.Op, want api.Result) {
	d.Helper()
	d.expect(short(fmt.Sprintf("Do %+v", op)), d.s.Do(0, op), want)
}

// begin begins a transaction at a reading that is above the clock.
func (d *desk) begin(phys uint64) {
	d.Helper()
	d.beginAt(phys, at(phys))
}

// beginAt begins one that is to read since start.
func (d *desk) beginAt(phys uint64, start api.Ts) {
	d.Helper()
	d.by, d.start = api.Txn{Client: uint32(d.client), N: d.by.N + 1}, start
	d.expect("Begin", d.s.Do(phys, op(api.OpBegin)), d.gotAt(api.GotFine, start))
	d.runs()
}

// answer answers what stands to letter seq, if r is the reply.
func (d *desk) answer(seq uint32, r api.Reply) api.Letter {
	l, ok := d.letters[seq]
	if !ok {
		d.Helper()
		d.Fatalf("no letter %d was sent", seq)
	}
	return api.Letter{Client: l.Client, Shard: l.Shard, Seq: l.Seq, Answer: true, Reply: r}
}

func (d *desk) hear(seq uint32, r api.Reply, want api.Result) {
	d.Helper()
	d.expect(short(fmt.Sprintf("Hear %d %+v", seq, r)), d.s.Hear(d.answer(seq, r)), want)
}

func (d *desk) give(want api.Result) {
	d.Helper()
	d.expect("Give", d.s.Give(), want)
}

// sent asks whether just these new requests are to be sent, with numbers one behind the other.
func (d *desk) sent(want ...to) {
	d.Helper()
	var seqs []uint32
	for _, w := range want {
		d.seq++
		d.letters[d.seq] = api.Letter{Client: uint32(d.client), Shard: uint32(w.shard), Seq: d.seq, Ask: w.ask}
		seqs = append(seqs, d.seq)
	}
	d.resent(seqs...)
}

// resent asks whether just the letters with these numbers are to be sent.
func (d *desk) resent(seqs ...uint32) {
	d.Helper()
	got := d.s.Out()
	var want []api.Letter
	for _, n := range seqs {
		want = append(want, d.letters[n])
	}
	if !slices.EqualFunc(got, want, sameLetter) {
		d.Fatalf("Out:%s\nwant%s", tellAll(got), tellAll(want))
	}
	for _, l := range got {
		if !letter.Right(l) {
			d.Fatalf("not right:%s", tellAll([]api.Letter{l}))
		}
	}
	if l := d.s.Out(); len(l) != 0 {
		d.Fatalf("Out again:%s", tellAll(l))
	}
}

func (d *desk) runs() {
	d.Helper()
	if u, ok := d.s.Start(); u != d.start || !ok {
		d.Fatalf("Start: %v %t, want %v", u, ok, d.start)
	}
}

func (d *desk) ended() {
	d.Helper()
	if u, ok := d.s.Start(); u != none || ok {
		d.Fatalf("Start: %v %t", u, ok)
	}
}

func (d *desk) quiet(want bool) {
	d.Helper()
	if d.s.Quiet() != want {
		d.Fatalf("Quiet: %t", !want)
	}
}

// undoes asks whether Undo is sent to these shards, as chores, and the transaction has ended.
func (d *desk) undoes(shards ...int) {
	d.Helper()
	d.ended()
	var l []to
	for _, n := range shards {
		l = append(l, to{n, d.askUndo()})
	}
	d.sent(l...)
	for i := range shards {
		d.quiet(false)
		d.hear(d.seq-uint32(i), undone(), nowhere)
	}
	d.quiet(true)
	d.sent()
}

// Of four shards c lives on the first, then b, a, d: the order of shards isn't that of keys.

func TestHomes(t *testing.T) {
	for i, k := range []string{"c", "b", "a", "d"} {
		if homeOf(k, 4) != i {
			t.Errorf("%s: %d", k, homeOf(k, 4))
		}
	}
}

func TestExample(t *testing.T) {
	d := begun(t, 1, 4, 5)
	d.do(put("a", "a"), d.got(api.GotFine))
	d.sent()
	d.do(commit, nowhere)
	d.sent(to{2, d.askLay("a", "a")})
	d.hear(1, laid(at(6)), nowhere)
	d.sent(to{2, d.askDecide(at(6), "a", 4)})
	d.quiet(false)
	d.hear(2, committed(at(6)), d.gotAt(api.GotCommitted, at(6)))
	d.ended()
	d.sent(to{2, d.askDone()})
	d.quiet(false)
	d.hear(3, fine(), nowhere)
	d.quiet(true)
	d.sent()
}

// TestTwoShards: the first example of the whole: two Lays, a Decide, an Apply, a Done.
func TestTwoShards(t *testing.T) {
	d := wrote(t, 4, "b", "a")
	d.do(commit, nowhere)
	d.sent(to{1, d.askLay("a", "b")}, to{2, d.askLay("a", "a")})
	d.hear(2, laid(at(51)), nowhere)
	d.sent()
	d.hear(1, laid(at(52)), nowhere)
	d.sent(to{2, d.askDecide(at(52), "a", 6)})
	d.hear(3, committed(at(52)), d.gotAt(api.GotCommitted, at(52)))
	d.sent(to{1, d.askApply(at(52))})
	d.hear(4, fine(), nowhere)
	d.sent(to{2, d.askDone()})
	d.hear(5, fine(), nowhere)
	d.quiet(true)
	d.sent()
}

func TestNew(t *testing.T) {
	ints := []int{math.MinInt, math.MinInt32, -1 << 32, -9, -2, -1, 0, 1, 2, 3, 4, 5, 7, 8, 9, 256, 257, 1 << 32, 1<<32 + 1, math.MaxInt}
	for _, client := range ints {
		for _, shards := range ints {
			s, err := session.New(client, shards)
			want := api.OK
			if client < 0 || client > 3 || shards < 1 || shards > 8 {
				want = api.ErrArg
			}
			if err != want || (s != nil) != (want == api.OK) {
				t.Errorf("New(%d, %d): %v, nil %t", client, shards, err, s == nil)
			}
		}
	}
	for client := range maxClients {
		for shards := 1; shards <= maxShards; shards++ {
			d := newDesk(t, client, shards)
			d.ended()
			d.quiet(true)
			d.sent()
			d.give(api.Result{Kind: api.GotError, Err: api.ErrIdle})
			d.s.Again()
			d.sent()
			d.begin(9)
			d.do(scan("", "", 1), nowhere)
			var l []to
			for n := range shards {
				l = append(l, to{n, d.askScan("", "")})
			}
			d.sent(l...)
		}
	}
}

func TestNilSession(t *testing.T) {
	var s *session.Session
	idle := api.Result{Kind: api.GotError, Err: api.ErrIdle}
	for kind := -1; kind < 9; kind++ {
		for _, phys := range []uint64{0, 5, maxPhys, maxPhys + 1, math.MaxUint64} {
			if r := s.Do(phys, api.Op{Kind: kind, Key: "a", Val: "b"}); !sameResult(r, idle) {
				t.Fatalf("Do: %s", tell(r))
			}
		}
		for _, isAnswer := range []bool{true, false} {
			if r := s.Hear(api.Letter{Seq: 1, Answer: isAnswer, Reply: said(kind)}); !sameResult(r, idle) {
				t.Fatalf("Hear: %s", tell(r))
			}
		}
		s.Again()
		if r := s.Give(); !sameResult(r, idle) {
			t.Fatalf("Give: %s", tell(r))
		}
		if l := s.Out(); len(l) != 0 {
			t.Fatalf("Out:%s", tellAll(l))
		}
		if u, ok := s.Start(); u != none || ok {
			t.Fatalf("Start: %v %t", u, ok)
		}
		if s.Quiet() {
			t.Fatal("Quiet")
		}
	}
}

// TestUnmadeSession: what a session answers that New hasn't made isn't said, but no call panics.
func TestUnmadeSession(t *testing.T) {
	s := &session.Session{}
	for range 3 {
		for _, o := range []api.Op{op(api.OpBegin), put("a", "b"), get("b"), scan("", "", 3), commit, abort} {
			s.Do(5, o)
			for n := range uint32(9) {
				s.Hear(api.Letter{Seq: n, Answer: true, Reply: laid(at(5))})
			}
			s.Again()
			s.Out()
			s.Start()
			s.Quiet()
			s.Give()
		}
	}
}

// others are Kinds of no op.
var others = []int{math.MinInt, math.MinInt32, -256, -7, -1, 0, 8, 9, 10, 256, 257, 258, 1<<32 + 2, math.MaxInt}

// allOps answers an op of each Kind, and of others, with a key and with none.
func allOps() []api.Op {
	var l []api.Op
	for _, kind := range slices.Concat([]int{1, 2, 3, 4, 5, 6, 7}, others) {
		for _, key := range []string{"a", "", strings.Repeat("k", maxKey+1)} {
			l = append(l, api.Op{Kind: kind, Key: key, Val: "v", To: "z", Limit: 3})
		}
	}
	return l
}

func TestWithoutTransaction(t *testing.T) {
	idle := api.Result{Kind: api.GotError, Err: api.ErrIdle}
	for _, o := range allOps() {
		if o.Kind == api.OpBegin {
			continue
		}
		d := newDesk(t, 2, 3)
		d.do(o, idle)
		d.ended()
		d.quiet(true)
		d.sent()
		// Nor behind one that has ended.
		d.begin(9)
		d.do(abort, d.got(api.GotFine))
		d.do(o, idle)
		d.ended()
		d.quiet(true)
		d.sent()
		d.begin(10)
	}
}

func TestOtherKinds(t *testing.T) {
	for _, kind := range others {
		d := begun(t, 2, 3, 5)
		d.do(api.Op{Kind: kind, Key: "a", Val: "b"}, d.gotErr(api.GotError, api.ErrArg))
		d.runs()
		d.quiet(true)
		d.sent()
	}
}

// TestUnderWay: while an op is, each other one is ErrBusy, and changes nothing.
func TestUnderWay(t *testing.T) {
	ways := map[string]func() *desk{
		"get": func() *desk {
			d := wrote(t, 4, "b")
			d.do(get("a"), nowhere)
			d.sent(to{2, d.askGet("a")})
			return d
		},
		"scan": func() *desk {
			d := wrote(t, 4, "b")
			d.do(scan("", "", 9), nowhere)
			for n := range 4 {
				d.letters[uint32(n+1)] = api.Letter{Client: 1, Shard: uint32(n), Seq: uint32(n + 1), Ask: d.askScan("", "")}
			}
			d.resent(1, 2, 3, 4)
			d.seq = 4
			return d
		},
		"lay":    func() *desk { return laying(t, 4, "a", "b") },
		"decide": func() *desk { return deciding(t, 4, "a", "b") },
		"revoke": func() *desk {
			d := deciding(t, 4, "a", "b")
			d.hear(d.seq, refused(api.ErrFull), nowhere)
			d.sent(to{2, d.askUndo()})
			return d
		},
		"push": func() *desk {
			d := begun(t, 1, 4, 50)
			d.do(get("a"), nowhere)
			d.sent(to{2, d.askGet("a")})
			d.hear(1, locked(who, "d"), nowhere)
			d.sent(to{3, askPush("d", at(50))})
			return d
		},
	}
	for name, way := range ways {
		d := way()
		before := d.seq
		for _, o := range allOps() {
			for _, phys := range []uint64{0, 70, maxPhys, maxPhys + 1} {
				d.expect(name, d.s.Do(phys, o), d.gotErr(api.GotError, api.ErrBusy))
			}
			d.runs()
			d.quiet(false)
			d.sent()
		}
		// Nothing was written, and no clock has gone on.
		switch d.s.Give().Kind {
		case api.GotError:
			d.do(abort, d.got(api.GotFine))
		case api.GotNothing:
			t.Fatalf("%s: Give", name)
		}
		d.beginAt(0, at(50, 1))
		if d.seq != before {
			t.Fatalf("%s: %d", name, d.seq)
		}
	}
}

func TestBegin(t *testing.T) {
	d := newDesk(t, 3, 2)
	d.beginAt(0, at(0, 1))
	d.do(op(api.OpBegin), d.gotErr(api.GotError, api.ErrBusy))
	d.runs()
	d.do(abort, d.got(api.GotFine))
	d.beginAt(0, at(0, 2))
	d.do(commit, d.gotAt(api.GotCommitted, at(0, 2)))
	d.begin(7)
	d.do(abort, d.got(api.GotFine))
	d.beginAt(7, at(7, 1))
	d.do(abort, d.got(api.GotFine))
	d.beginAt(3, at(7, 2))
	d.do(abort, d.got(api.GotFine))
	d.begin(maxPhys)
	d.do(abort, d.got(api.GotFine))
	d.beginAt(0, at(maxPhys, 1))
	d.quiet(true)
	d.sent()
}

// TestBeginErrors: a clock that can't tick is told, and nothing has changed by it.
func TestBeginErrors(t *testing.T) {
	over := api.Result{Kind: api.GotError, Err: api.ErrOver}
	d := newDesk(t, 0, 1)
	for _, phys := range []uint64{maxPhys + 1, maxPhys * 2, math.MaxUint64 - 1, math.MaxUint64} {
		d.expect("Begin", d.s.Do(phys, op(api.OpBegin)), over)
		d.ended()
	}
	d.begin(5)
	// Above all else ErrBusy, with a transaction.
	d.expect("Begin", d.s.Do(math.MaxUint64, op(api.OpBegin)), d.gotErr(api.GotError, api.ErrBusy))
	d.do(get("a"), nowhere)
	d.sent(to{0, d.askGet("a")})
	r := value("x")
	r.Now = api.Ts{P: maxPhys, L: maxLogic - 1}
	d.hear(1, r, d.gotValue("x"))
	d.do(abort, d.got(api.GotFine))
	d.expect("Begin", d.s.Do(maxPhys+1, op(api.OpBegin)), over)
	d.beginAt(maxPhys, greatest)
	d.do(abort, d.got(api.GotFine))
	for _, phys := range []uint64{0, 5, maxPhys, maxPhys + 1, math.MaxUint64} {
		d.expect("Begin", d.s.Do(phys, op(api.OpBegin)), over)
		d.ended()
		d.quiet(true)
		d.sent()
	}
}

// TestNames: each transaction has a name of its own, with the client's number.
func TestNames(t *testing.T) {
	for client := range maxClients {
		d := newDesk(t, client, 2)
		for n := range 300 {
			d.begin(uint64(n + 1))
			if d.by != (api.Txn{Client: uint32(client), N: uint32(n + 1)}) {
				t.Fatal(d.by)
			}
			d.do(abort, d.got(api.GotFine))
		}
	}
}

func TestWriteEdges(t *testing.T) {
	key, val := strings.Repeat("k", maxKey), strings.Repeat("v", maxVal)
	for _, k := range []string{"", "k", "\x00", "\xff\xfe", key, key + "k", strings.Repeat("k", 1000)} {
		for _, v := range []string{"", "v", val, val + "v", strings.Repeat("v", 100000)} {
			d := begun(t, 0, 3, 5)
			o, dead := put(k, v), del(k)
			dead.Val = v
			isWritten := isKey(k) && len(v) <= maxVal
			if !isWritten {
				d.do(o, d.gotErr(api.GotError, api.ErrArg))
			} else {
				d.do(o, d.got(api.GotFine))
				d.do(get(k), d.gotValue(v))
			}
			if !isKey(k) {
				d.do(dead, d.gotErr(api.GotError, api.ErrArg))
			} else {
				d.do(dead, d.got(api.GotFine))
				d.do(get(k), d.got(api.GotValue))
			}
			d.runs()
			d.quiet(true)
			d.sent()
			// What was refused isn't written.
			d.do(commit, map[bool]api.Result{true: nowhere, false: d.gotAt(api.GotCommitted, at(5))}[isKey(k)])
			if isKey(k) {
				q := d.askLay(k)
				q.Writes = []api.Write{{Key: k, Dead: true}}
				d.sent(to{homeOf(k, 3), q})
			}
		}
	}
}

func TestMaxWrites(t *testing.T) {
	var keys []string
	for n := range maxWrites {
		keys = append(keys, fmt.Sprintf("k%02d", n))
	}
	d := wrote(t, 1, keys...)
	more := d.gotErr(api.GotError, api.ErrMore)
	for _, k := range []string{"a", "z", "k", "k0", "k000", "k05x"} {
		d.do(put(k, "v"), more)
		d.do(del(k), more)
	}
	// What can be no write is told first.
	d.do(put("", "v"), d.gotErr(api.GotError, api.ErrArg))
	d.do(put("a", strings.Repeat("v", 257)), d.gotErr(api.GotError, api.ErrArg))
	d.do(del(""), d.gotErr(api.GotError, api.ErrArg))
	// A key that is written may be so once more.
	for _, k := range keys {
		d.do(put(k, "w"), d.got(api.GotFine))
		d.do(del(k), d.got(api.GotFine))
		d.do(put(k, k), d.got(api.GotFine))
		d.do(put("x", "v"), more)
	}
	d.do(commit, nowhere)
	d.sent(to{0, d.askLay("k00", keys...)})
	// The next transaction has none of them.
	d.hear(1, said(api.SaidConflict), d.gotErr(api.GotAborted, api.ErrBusy))
	d.undoes(0)
	d.begin(60)
	d.do(put("a", "v"), d.got(api.GotFine))
	d.do(get("k00"), nowhere)
	d.sent(to{0, d.askGet("k00")})
}

// TestOwnWrites: the last write of a key is what is read of it, without a letter.
func TestOwnWrites(t *testing.T) {
	d := begun(t, 0, 4, 5)
	for _, k := range []string{"a", "b", "c", "d", "a\x00", "ab", "\x00"} {
		d.do(put(k, ""), d.got(api.GotFine))
		d.do(get(k), d.gotValue(""))
		d.do(put(k, k+"1"), d.got(api.GotFine))
		d.do(get(k), d.gotValue(k+"1"))
		d.do(del(k), d.got(api.GotFine))
		d.do(get(k), d.got(api.GotValue))
		d.do(put(k, k+"2"), d.got(api.GotFine))
	}
	for _, k := range []string{"a", "b", "c", "d", "a\x00", "ab", "\x00"} {
		d.do(get(k), d.gotValue(k+"2"))
	}
	d.quiet(true)
	d.sent()
	// Another transaction's aren't read.
	d.do(abort, d.got(api.GotFine))
	d.begin(6)
	d.do(get("a"), nowhere)
	d.sent(to{2, d.askGet("a")})
	d.hear(1, said(api.SaidValue), d.got(api.GotValue))
}

func TestGetEdges(t *testing.T) {
	d := begun(t, 0, 4, 5)
	for _, k := range []string{"", strings.Repeat("k", maxKey+1), strings.Repeat("k", 5000)} {
		d.do(get(k), d.gotErr(api.GotError, api.ErrArg))
		d.quiet(true)
		d.sent()
	}
	for i, k := range []string{"k", "\x00", "\xff", strings.Repeat("k", maxKey), strings.Repeat("\xff", maxKey)} {
		d.do(get(k), nowhere)
		d.runs()
		d.quiet(false)
		d.sent(to{homeOf(k, 4), d.askGet(k)})
		d.hear(uint32(i+1), value("v"), d.gotValue("v"))
		d.runs()
		d.quiet(true)
		d.sent()
	}
}

// TestGetHomes: a key's home is asked, and no other shard, be there few or many.
func TestGetHomes(t *testing.T) {
	for shards := 1; shards <= maxShards; shards++ {
		d := begun(t, 3, shards, 5)
		for b := range 256 {
			k := string([]byte{byte(b)}) + strings.Repeat("x", b%maxKey)
			d.do(get(k), nowhere)
			d.sent(to{homeOf(k, shards), d.askGet(k)})
			d.hear(d.seq, value(k), d.gotValue(k))
		}
	}
}

// TestValues: what is found is told, and what isn't.
func TestValues(t *testing.T) {
	d := begun(t, 0, 4, 5)
	for _, v := range []string{"", "v", strings.Repeat("v", maxVal)} {
		d.do(get("a"), nowhere)
		d.sent(to{2, d.askGet("a")})
		d.hear(d.seq, value(v), d.gotValue(v))
	}
	d.do(get("a"), nowhere)
	d.sent(to{2, d.askGet("a")})
	d.hear(d.seq, said(api.SaidValue), d.got(api.GotValue))
	// Fields that a value has nothing to do with play no part.
	d.do(get("a"), nowhere)
	d.sent(to{2, d.askGet("a")})
	r := value("x")
	r.Err, r.Pairs, r.Who, r.Start, r.At, r.Primary = api.ErrFull, pairs("", "p").Pairs, who, at(8), at(9), "p"
	d.hear(d.seq, r, d.gotValue("x"))
}

func TestScanEdges(t *testing.T) {
	long := strings.Repeat("k", maxKey)
	d := begun(t, 2, 3, 5)
	for _, o := range []api.Op{scan(long+"k", "", 3), scan("", long+"k", 3), scan(long+"k", long+"k", 3), scan(strings.Repeat("k", 4000), "z", -1)} {
		d.do(o, d.gotErr(api.GotError, api.ErrArg))
		d.runs()
		d.quiet(true)
		d.sent()
	}
	for _, o := range []api.Op{scan("", "", 3), scan(long, long, 3), scan("", long, 0), scan(long, "", -1), scan("z", "a", math.MaxInt), scan("\x00", "\xff", math.MinInt)} {
		d.do(o, nowhere)
		q := d.askScan(o.Key, o.To)
		d.quiet(false)
		d.sent(to{0, q}, to{1, q}, to{2, q})
		d.hear(d.seq-1, pairs(""), nowhere)
		d.hear(d.seq, pairs(""), nowhere)
		d.runs()
		d.sent()
		d.hear(d.seq-2, pairs(""), d.got(api.GotPairs))
		d.runs()
		d.quiet(true)
		d.sent()
	}
}

// TestScan: pairs and writes together.
func TestScan(t *testing.T) {
	long := strings.Repeat("k", maxKey)
	for _, c := range []struct {
		name  string
		ops   []api.Op
		scan  api.Op
		told  []api.Reply // of each shard
		order []int       // in which they arrive
		want  []string
	}{
		{"pairs of all, by keys", nil, scan("", "", 9),
			[]api.Reply{pairs("", "c", "g"), pairs("", "b"), pairs("", "a", "e")}, []int{0, 1, 2}, []string{"a", "a", "b", "b", "c", "c", "e", "e", "g", "g"}},
		{"in any order", nil, scan("", "", 9),
			[]api.Reply{pairs("", "g", "c"), pairs("", "b"), pairs("", "e", "a")}, []int{2, 0, 1}, []string{"a", "a", "b", "b", "c", "c", "e", "e", "g", "g"}},
		{"by bytes", nil, scan("", "", 9),
			[]api.Reply{pairs("", "\xff", "B", "b"), pairs("", "a\x00"), pairs("", "a", "\x00")}, []int{2, 0, 1},
			[]string{"\x00", "\x00", "B", "B", "a", "a", "a\x00", "a\x00", "b", "b", "\xff", "\xff"}},
		{"a write in a pair's place", []api.Op{put("b", "own")}, scan("", "", 9),
			[]api.Reply{pairs("", "c"), pairs("", "b"), pairs("", "a")}, []int{0, 1, 2}, []string{"a", "a", "b", "own", "c", "c"}},
		{"writes beside pairs", []api.Op{put("d", "own"), put("A", "own"), put("b1", "")}, scan("", "", 9),
			[]api.Reply{pairs("", "c"), pairs("", "b"), pairs("", "a")}, []int{0, 1, 2}, []string{"A", "own", "a", "a", "b", "b", "b1", "", "c", "c", "d", "own"}},
		{"writes alone", []api.Op{put("d", "1"), put("a", "2")}, scan("", "", 9),
			[]api.Reply{pairs(""), pairs(""), pairs("")}, []int{0, 1, 2}, []string{"a", "2", "d", "1"}},
		{"dead writes", []api.Op{del("b"), del("x")}, scan("", "", 9),
			[]api.Reply{pairs("", "c"), pairs("", "b"), pairs("", "a")}, []int{0, 1, 2}, []string{"a", "a", "c", "c"}},
		{"all dead", []api.Op{del("a"), del("b"), del("c")}, scan("", "", 9),
			[]api.Reply{pairs("", "c"), pairs("", "b"), pairs("", "a")}, []int{0, 1, 2}, nil},
		{"writes of the range alone", []api.Op{put("a", "own"), put("b", "own"), put("bz", "own"), put("c", "own"), del("d"), put("d", "own")}, scan("b", "c", 9),
			[]api.Reply{pairs(""), pairs(""), pairs("", "b1")}, []int{0, 1, 2}, []string{"b", "own", "b1", "b1", "bz", "own"}},
		{"from a key on, without an end", []api.Op{put("a", "own"), put("b", "own"), put("z", "own")}, scan("b", "", 9),
			[]api.Reply{pairs(""), pairs(""), pairs("")}, []int{0, 1, 2}, []string{"b", "own", "z", "own"}},
		{"up to a key", []api.Op{put("a", "own"), put("b", "own"), put("z", "own")}, scan("", "b", 9),
			[]api.Reply{pairs(""), pairs(""), pairs("")}, []int{0, 1, 2}, []string{"a", "own"}},
		{"an empty range", []api.Op{put("a", "own"), put("b", "own")}, scan("b", "b", 9),
			[]api.Reply{pairs(""), pairs(""), pairs("")}, []int{0, 1, 2}, nil},
		{"a range turned about", []api.Op{put("a", "own"), put("b", "own")}, scan("c", "a", 9),
			[]api.Reply{pairs(""), pairs(""), pairs("")}, []int{0, 1, 2}, nil},
		{"pairs beside the range are told, as they are", []api.Op{put("b", "own"), put("z", "own"), del("a")}, scan("b", "c", 9),
			[]api.Reply{pairs("", "z"), pairs("", "b"), pairs("", "a")}, []int{0, 1, 2}, []string{"a", "a", "b", "own", "z", "z"}},
		{"pairs without a key", nil, scan("", "", 9),
			[]api.Reply{pairs("1", "", "a"), pairs("2", ""), pairs("3", long, "")}, []int{0, 1, 2}, []string{"a", "a1", long, long + "3"}},
		{"of several of one key the first", nil, scan("", "", 9),
			[]api.Reply{pairs("1", "a", "b"), pairs("2", "b", "c"), pairs("3", "c", "a", "d")}, []int{0, 1, 2}, []string{"a", "a1", "b", "b1", "c", "c2", "d", "d3"}},
		{"the first that arrived", nil, scan("", "", 9),
			[]api.Reply{pairs("1", "a", "b"), pairs("2", "b", "c"), pairs("3", "c", "a", "d")}, []int{2, 1, 0}, []string{"a", "a3", "b", "b2", "c", "c3", "d", "d3"}},
		{"several of one shard", nil, scan("", "", 9),
			[]api.Reply{{Kind: api.SaidPairs, Pairs: []api.Pair{{Key: "b", Val: "1"}, {Key: "a", Val: "2"}, {Key: "b", Val: "3"}, {Key: "a", Val: "4"}}}, pairs(""), pairs("")},
			[]int{0, 1, 2}, []string{"a", "2", "b", "1"}},
		{"several, and a write", []api.Op{put("a", "own"), del("b")}, scan("", "", 9),
			[]api.Reply{pairs("1", "a", "b"), pairs("2", "b", "c"), pairs("3", "c", "a", "d")}, []int{0, 1, 2}, []string{"a", "own", "c", "c2", "d", "d3"}},
		{"the first of them alone", nil, scan("", "", 1),
			[]api.Reply{pairs("", "c"), pairs("", "b"), pairs("", "a")}, []int{0, 1, 2}, []string{"a", "a"}},
		{"a limit behind dead ones", []api.Op{del("a"), put("b", "own")}, scan("", "", 2),
			[]api.Reply{pairs("", "c"), pairs("", "b"), pairs("", "a", "d")}, []int{0, 1, 2}, []string{"b", "own", "c", "c"}},
		{"a limit behind several of one key", nil, scan("", "", 2),
			[]api.Reply{pairs("1", "a", "b", "c"), pairs("2", "a", "b"), pairs("3", "a")}, []int{0, 1, 2}, []string{"a", "a1", "b", "b1"}},
		{"a limit of none", []api.Op{put("a", "own")}, scan("", "", 0),
			[]api.Reply{pairs("", "c"), pairs("", "b"), pairs("", "a")}, []int{0, 1, 2}, nil},
		{"a limit below none", []api.Op{put("a", "own")}, scan("", "", -1),
			[]api.Reply{pairs("", "c"), pairs("", "b"), pairs("", "a")}, []int{0, 1, 2}, nil},
		{"the least limit", []api.Op{put("a", "own")}, scan("", "", math.MinInt),
			[]api.Reply{pairs("", "c"), pairs("", "b"), pairs("", "a")}, []int{0, 1, 2}, nil},
		{"the greatest limit", []api.Op{put("a", "own")}, scan("", "", math.MaxInt),
			[]api.Reply{pairs("", "c"), pairs("", "b"), pairs("", "a")}, []int{0, 1, 2}, []string{"a", "own", "b", "b", "c", "c"}},
	} {
		d := begun(t, 1, 3, 50)
		for _, o := range c.ops {
			d.do(o, d.got(api.GotFine))
		}
		d.do(c.scan, nowhere)
		q := d.askScan(c.scan.Key, c.scan.To)
		d.sent(to{0, q}, to{1, q}, to{2, q})
		for i, n := range c.order {
			want := nowhere
			if i == 2 {
				want = d.gotPairs(c.want...)
			}
			d.expect(c.name, d.s.Hear(d.answer(uint32(n+1), c.told[n])), want)
		}
		d.quiet(true)
		d.runs()
		d.sent()
		// The writes are there still.
		for _, o := range c.ops {
			if r := d.s.Do(0, get(o.Key)); r.Kind != api.GotValue || r.Val != o.Val && o.Val != "" {
				t.Fatalf("%s: Get of %q: %s", c.name, o.Key, tell(r))
			}
		}
	}
}

// TestScanLimits: 16 at most, whatever is asked for, of a full answer of each shard.
func TestScanLimits(t *testing.T) {
	for shards := 1; shards <= maxShards; shards++ {
		for _, limit := range []int{-5, -1, 0, 1, 2, 15, 16, 17, 31, 32, 33, 1000, math.MaxInt} {
			for _, dead := range []int{0, 1, maxWrites} {
				d := begun(t, 0, shards, 50)
				for n := range dead {
					d.do(del(fmt.Sprintf("k%03d", n)), d.got(api.GotFine))
				}
				d.do(scan("", "", limit), nowhere)
				var asks []to
				for n := range shards {
					asks = append(asks, to{n, d.askScan("", "")})
				}
				d.sent(asks...)
				var want []string
				for n := dead; len(want) < 2*min(limit, mostPairs); n++ {
					k := fmt.Sprintf("k%03d", n)
					want = append(want, k, k)
				}
				for n := range shards {
					r := pairs("")
					for i := range maxScan {
						k := fmt.Sprintf("k%03d", i*shards+n)
						r.Pairs = append(r.Pairs, api.Pair{Key: k, Val: k})
					}
					res := nowhere
					if n == shards-1 {
						res = d.gotPairs(want...)
					}
					d.hear(uint32(n+1), r, res)
				}
			}
		}
	}
}
