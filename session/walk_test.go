package session_test

import (
	"fmt"
	"math"
	"math/rand"
	"runtime"
	"slices"
	"strings"
	"testing"

	"dovecote/api"
	"dovecote/letter"
	"dovecote/session"
)

// duo is a session and the plain one, to which the same is done.
type duo struct {
	*testing.T
	s    *session.Session
	p    *plain
	told []string // what was done, for whoever reads a failure
	held []held   // lists that were answered, and aren't scribbled on
}

// held is what a list of letters, and one of pairs, was when it was answered.
type held struct {
	letters []api.Letter
	pairs   []api.Pair
	then    string
}

// keep keeps lists, and holds those that were kept before against what they were.
func (d *duo) keep(letters []api.Letter, pairs []api.Pair) {
	d.Helper()
	for _, h := range d.held {
		if now := fmt.Sprint(h.letters, h.pairs); now != h.then {
			d.fail("a list that was answered has changed", now, h.then)
		}
	}
	d.held = append(d.held, held{letters, pairs, fmt.Sprint(letters, pairs)})
	d.held = d.held[max(0, len(d.held)-3):]
}

func newDuo(t *testing.T, client, shards int) *duo {
	t.Helper()
	return &duo{T: t, s: opened(t, client, shards), p: newPlain(client, shards)}
}

func (d *duo) fail(what string, got, want any) {
	d.Helper()
	d.Fatalf("%s:\n     %s\nwant %s\nbehind:\n%s", what, short(fmt.Sprintf("%+v", got)), short(fmt.Sprintf("%+v", want)), strings.Join(d.told, "\n"))
}

// note keeps what is done.
func (d *duo) note(form string, args ...any) {
	d.told = append(d.told, short(fmt.Sprintf(form, args...)))
	if len(d.told) > 60 {
		d.told = d.told[1:]
	}
}

// same holds two results against each other, and all that can be asked without changing anything.
func (d *duo) same(got, want api.Result) {
	d.Helper()
	if !sameResult(got, want) {
		d.fail("result", got, want)
	}
	// Whoever has a list may do with it what he likes.
	if len(got.Pairs)%2 == 1 {
		d.keep(nil, got.Pairs)
	} else {
		scribble(got.Pairs, api.Pair{Key: "scribbled"})
	}
	a, hasA := d.s.Start()
	b, hasB := d.p.Start()
	if a != b || hasA != hasB {
		d.fail("Start", a, b)
	}
	if d.s.Quiet() != d.p.Quiet() {
		d.fail("Quiet", d.s.Quiet(), d.p.Quiet())
	}
}

// scribble writes one over all of l, the room behind it too.
func scribble[T any](l []T, one T) {
	l = l[:cap(l)]
	for i := range l {
		l[i] = one
	}
}

func (d *duo) do(phys uint64, op api.Op) {
	d.Helper()
	d.note("Do(%d, %+v)", phys, op)
	d.same(d.s.Do(phys, op), d.p.Do(phys, op))
}

func (d *duo) hear(l api.Letter) {
	d.Helper()
	d.note("Hear(%+v)", l)
	want := d.p.Hear(l)
	given, behind := l, api.Pair{Key: "behind"}
	// The session has a list of its own, with something in the room behind it.
	given.Reply.Pairs = append(slices.Clone(l.Reply.Pairs), behind, behind)[:len(l.Reply.Pairs)]
	d.same(d.s.Hear(given), want)
	if n := len(l.Reply.Pairs); !slices.Equal(given.Reply.Pairs[:n+2], append(slices.Clone(l.Reply.Pairs), behind, behind)) {
		d.fail("what was handed in", given.Reply.Pairs, l.Reply.Pairs)
	}
	scribble(given.Reply.Pairs, api.Pair{Key: "a", Val: "scribbled"})
}

func (d *duo) give() {
	d.Helper()
	d.note("Give")
	d.same(d.s.Give(), d.p.Give())
}

func (d *duo) again() {
	d.Helper()
	d.note("Again")
	d.s.Again()
	d.p.Again()
	d.same(nowhere, nowhere)
}

// out holds the letters against each other, and asks of each whether it can be sent.
func (d *duo) out() {
	d.Helper()
	d.note("Out")
	got, want := d.s.Out(), d.p.Out()
	if !slices.EqualFunc(got, want, sameLetter) {
		d.fail("Out", tellAll(got), tellAll(want))
	}
	for i, l := range got {
		if !letter.Right(l) {
			d.fail("a letter that isn't right", tellAll(got[i:i+1]), "")
		}
		text, err := letter.Write(l)
		if back, err2 := letter.Read(text); err != api.OK || err2 != api.OK || !sameLetter(back, l) {
			d.fail("a letter as bytes", tellAll(got[i:i+1]), tellAll([]api.Letter{back}))
		}
	}
	if len(got) > 0 && got[0].Seq%2 == 1 {
		d.keep(got, nil)
		return
	}
	d.scribbled(got, want)
}

// scribbled writes over all letters, and asks whether any two lists of them share memory.
func (d *duo) scribbled(got, want []api.Letter) {
	d.Helper()
	for _, l := range got {
		scribble(l.Ask.Writes, api.Write{Key: "scribbled"})
		scribble(l.Ask.Skips, api.Txn{Client: 99})
	}
	// No two lists of one answer share any memory.
	for i, l := range got {
		for j, w := range want[i].Ask.Writes {
			l.Ask.Writes[j] = w
		}
		if len(l.Ask.Writes) > 0 && slices.ContainsFunc(got[i+1:], func(o api.Letter) bool {
			return slices.ContainsFunc(o.Ask.Writes, func(w api.Write) bool { return w.Key != "scribbled" })
		}) {
			d.fail("shared", tellAll(got), tellAll(want))
		}
		for j, by := range want[i].Ask.Skips {
			l.Ask.Skips[j] = by
		}
		if len(l.Ask.Skips) > 0 && slices.ContainsFunc(got[i+1:], func(o api.Letter) bool {
			return slices.ContainsFunc(o.Ask.Skips, func(by api.Txn) bool { return by.Client != 99 })
		}) {
			d.fail("shared", tellAll(got), tellAll(want))
		}
	}
	scribble(got, api.Letter{Shard: 99})
	d.same(nowhere, nowhere)
}

// chance picks what is done next.
type chance struct {
	*rand.Rand
	phys uint64
}

func pick[T any](c *chance, l ...T) T { return l[c.Intn(len(l))] }

func (c *chance) key() string {
	switch c.Intn(60) {
	case 0:
		return pick(c, "", strings.Repeat("k", maxKey), strings.Repeat("k", maxKey+1))
	case 1, 2, 3, 4:
		return fmt.Sprint("k", c.Intn(30))
	}
	return pick(c, "a", "b", "c", "d", "e", "a\x00", "ab", "\xff", "m")
}

func (c *chance) val() string {
	if c.Intn(60) == 0 {
		return strings.Repeat("v", pick(c, 0, maxVal-1, maxVal, maxVal+1))
	}
	return fmt.Sprint("v", c.Intn(1000))
}

// stamp answers one about where the clocks are.
func (c *chance) stamp() api.Ts {
	switch c.Intn(300) {
	case 0:
		return none
	case 1:
		return api.Ts{P: c.phys, L: maxLogic}
	}
	return api.Ts{P: c.phys + uint64(c.Intn(5)) - min(c.phys, 2), L: uint32(c.Intn(3))}
}

func (c *chance) txn() api.Txn { return api.Txn{Client: uint32(c.Intn(4)), N: uint32(c.Intn(5))} }

func (c *chance) op(p *plain) api.Op {
	kind := pick(c, 1, 2, 2, 3, 3, 4, 4, 4, 4, 5, 6, 6, 7)
	if !p.running {
		kind = pick(c, 1, 1, 1, 1, 1, 1, kind)
	}
	if c.Intn(80) == 0 {
		kind = pick(c, others...)
	}
	o := api.Op{Kind: kind, Key: c.key(), Val: c.val(), To: pick(c, "", c.key()), Limit: pick(c, 0, 1, 2, 3, 5, 9, 15, 16, 17, 33, -1, math.MaxInt, math.MinInt)}
	if kind == api.OpScan && c.Intn(3) > 0 {
		o.Key = ""
	}
	return o
}

// likely answers the Kinds of answers that lead on, by what was asked.
func likely(q api.Request) []int {
	switch q.Kind {
	case api.AskGet:
		return []int{1, 3, 3}
	case api.AskScan:
		return []int{2, 2, 2, 3}
	case api.AskLay:
		return []int{4, 4, 4, 4, 4, 3, 3, 10}
	case api.AskDecide:
		return []int{5, 7, 6, 0, 0}
	case api.AskPush:
		return []int{5, 6, 8, 8, 8}
	case api.AskUndo:
		return []int{6, 6, 6, 5, 0}
	}
	return []int{9, 9, 9, 9, 9, 0}
}

// reply answers one to q, most often such as leads on.
func (c *chance) reply(q api.Request) api.Reply {
	r := api.Reply{
		Kind: pick(c, likely(q)...), Err: pick(c, api.OK, api.ErrFull, api.ErrDown, api.ErrOld, 255), Found: c.Intn(3) > 0, Val: c.val(),
		Who: c.txn(), Start: c.stamp(), At: c.stamp(), Primary: pick(c, "a", "b", "c", "d", "m", "kk"), Now: c.stamp(),
	}
	if c.Intn(25) == 0 {
		r.Kind = c.Intn(11)
	}
	if c.Intn(40) == 0 {
		r.Primary = ""
	}
	for range c.Intn(6) {
		r.Pairs = append(r.Pairs, api.Pair{Key: c.key(), Val: c.val()})
	}
	for c.Intn(10) == 0 && len(r.Pairs) < maxScan {
		for len(r.Pairs) < maxScan {
			r.Pairs = append(r.Pairs, api.Pair{Key: fmt.Sprint("k", c.Intn(60)), Val: c.val()})
		}
	}
	switch c.Intn(400) {
	case 0:
		r.Now = pick(c, greatest, api.Ts{P: maxPhys, L: maxLogic - 3}, api.Ts{P: maxPhys + 1}, api.Ts{L: maxLogic + 1})
	case 1:
		r.Kind = pick(c, -1, 11)
	case 2:
		r.Err = pick[api.Errno](c, -1, 256)
	}
	return r
}

// letter answers an answer, most often one to what was asked.
func (c *chance) letter(p *plain) api.Letter {
	l := api.Letter{Client: uint32(p.client), Shard: uint32(c.Intn(p.shards)), Seq: uint32(c.Intn(int(p.seqs) + 2)), Answer: true}
	var q api.Request
	if len(p.errands) > 0 && c.Intn(30) > 0 {
		e := pick(c, p.errands...)
		// An op's asks are answered before chores, more often than not.
		for i := 0; i < 2 && e.role == "chore"; i++ {
			e = pick(c, p.errands...)
		}
		l.Shard, l.Seq, q = e.letter.Shard, e.letter.Seq, e.letter.Ask
	}
	l.Reply = c.reply(q)
	switch c.Intn(100) {
	case 0:
		l.Client = uint32(c.Intn(5))
	case 1:
		l.Shard = uint32(c.Intn(9))
	case 2:
		l.Seq += uint32(c.Intn(3)) - 1
	case 3:
		l.Answer = false
	case 4:
		l.Ask.Key = "a"
	}
	return l
}

func (c *chance) step(d *duo) {
	d.Helper()
	switch n := c.Intn(100); {
	case n < 30:
		switch c.Intn(40) {
		case 0:
			d.do(pick(c, maxPhys, maxPhys+1, math.MaxUint64, 0), c.op(d.p))
		case 1:
			c.phys += uint64(c.Intn(20))
			fallthrough
		default:
			d.do(c.phys, c.op(d.p))
		}
	case n < 75:
		d.hear(c.letter(d.p))
	case n < 94:
		d.out()
	case n < 98:
		d.again()
	default:
		d.give()
	}
}

// TestChance: calls in any order answer, and send, what the plain one does.
func TestChance(t *testing.T) {
	for seed := range int64(3000) {
		c := &chance{Rand: rand.New(rand.NewSource(seed)), phys: uint64(seed % 7 * 20)}
		d := newDuo(t, c.Intn(maxClients), 1+c.Intn(maxShards))
		for range 200 {
			c.step(d)
		}
		d.out()
	}
}

// TestLongChance: the same session for long.
func TestLongChance(t *testing.T) {
	for seed := range int64(8) {
		c := &chance{Rand: rand.New(rand.NewSource(-1 - seed)), phys: 10}
		d := newDuo(t, int(seed)%maxClients, 1+int(seed))
		for range 20000 {
			c.step(d)
			// A clock at its end begins nothing any more.
			if d.p.clock.P >= maxPhys-1 {
				d = newDuo(t, int(seed)%maxClients, 1+int(seed))
			}
		}
	}
}

// TestAllOrders: from each op on, all answers of all Kinds to whatever is asked, in all orders of a few, and Give and Again between.
func TestAllOrders(t *testing.T) {
	begin := op(api.OpBegin)
	for _, c := range []struct {
		shards, depth int
		ops           []api.Op
	}{
		{4, 5, []api.Op{begin, get("a")}},
		{1, 4, []api.Op{begin, put("b", "own"), scan("", "", 3)}},
		{2, 3, []api.Op{begin, del("b"), scan("a", "", 3)}},
		{4, 4, []api.Op{begin, put("a", "x"), commit}},
		{4, 3, []api.Op{begin, put("a", "x"), put("b", "y"), del("c"), commit}},
	} {
		n := 0
		var goOn func(done []int)
		goOn = func(done []int) {
			d := newDuo(t, 1, c.shards)
			for _, o := range c.ops {
				d.do(50, o)
			}
			for _, choice := range done {
				d.choose(choice)
			}
			d.out()
			n++
			if len(done) == c.depth {
				return
			}
			for choice := range len(d.p.errands)*11 + 2 {
				goOn(append(slices.Clone(done), choice))
			}
		}
		goOn(nil)
		t.Logf("%+v: %d", c.ops, n)
	}
}

// choose does what a number stands for: an answer to an errand, or Give, or Again.
func (d *duo) choose(choice int) {
	d.Helper()
	i, kind := choice/11, choice%11
	switch {
	case i < len(d.p.errands):
		e := d.p.errands[i].letter
		d.hear(api.Letter{Client: e.Client, Shard: e.Shard, Seq: e.Seq, Answer: true, Reply: replyOf(kind, api.ErrFull)})
	case kind == 0:
		d.give()
	default:
		d.again()
	}
}

// TestMemory: what is done with a list that was answered, or handed in, changes no other answer.
func TestMemory(t *testing.T) {
	d := wrote(t, 1, "a", "b", "c")
	d.do(commit, nowhere)
	d.s.Again()
	d.s.Again()
	l := d.s.Out()
	if len(l) != 3 {
		t.Fatal(tellAll(l))
	}
	want := d.askLay("a", "a", "b", "c")
	for i := range l {
		if !sameAsk(l[i].Ask, want) {
			t.Fatalf("letter %d:%s", i, tellAll(l))
		}
		scribble(l[i].Ask.Writes, api.Write{Key: "scribbled"})
	}
	d.s.Again()
	d.letters[1], d.seq = api.Letter{Client: 1, Seq: 1, Ask: want}, 1
	d.resent(1)
	// What is locked is asked again as it was.
	d.hear(1, locked(who, "d"), nowhere)
	d.sent(to{0, askPush("d", none)})
	d.hear(2, undone(), nowhere)
	d.sent(to{0, undoWho})
	d.hear(3, undone(), nowhere)
	d.sent(to{0, want})

	d, _ = getting(t)
	for n := range maxSkips {
		d.hear(d.seq, locked(who, "d"), nowhere)
		d.sent(to{3, askPush("d", at(50))})
		d.hear(d.seq, pushed(), nowhere)
		q := d.askGet("a", slices.Repeat([]api.Txn{who}, n+1)...)
		d.s.Again()
		l := d.s.Out()
		if len(l) != 2 || !sameAsk(l[0].Ask, q) || !sameAsk(l[1].Ask, q) {
			t.Fatal(tellAll(l))
		}
		scribble(l[0].Ask.Skips, other)
		if !sameAsk(l[1].Ask, q) {
			t.Fatal("two letters share their Skips")
		}
		scribble(l[1].Ask.Skips, other)
		d.s.Again()
		d.seq++
		d.letters[d.seq] = api.Letter{Client: 1, Shard: 2, Seq: d.seq, Ask: q}
		d.resent(d.seq)
	}
}

// TestListsStay: a list that was answered stays as it was, whatever is done then.
func TestListsStay(t *testing.T) {
	d := begun(t, 1, 3, 50)
	d.do(put("b", "own"), d.got(api.GotFine))
	ask := func() ([]api.Letter, []api.Pair) {
		d.do(scan("", "", 9), nowhere)
		l := d.s.Out()
		var r api.Result
		for i, one := range l {
			r = d.s.Hear(api.Letter{Client: 1, Shard: one.Shard, Seq: one.Seq, Answer: true, Reply: pairs(fmt.Sprint(one.Seq), "a", fmt.Sprint("k", i))})
		}
		return l, r.Pairs
	}
	letters, told := ask()
	then := fmt.Sprint(letters, told)
	if len(letters) != 3 || len(told) != 5 {
		t.Fatal(then)
	}
	for range 3 {
		ask()
		d.s.Again()
		d.s.Out()
	}
	d.do(commit, nowhere)
	d.give(d.gotErr(api.GotAborted, api.ErrLost))
	if now := fmt.Sprint(letters, told); now != then {
		t.Errorf("%s\nwant %s", now, then)
	}
}

// TestScanMemory: pairs that were handed in, or answered, may be written over.
func TestScanMemory(t *testing.T) {
	d := begun(t, 1, 3, 50)
	d.do(put("b", "own"), d.got(api.GotFine))
	for range 2 {
		d.do(scan("", "", 9), nowhere)
		q := d.askScan("", "")
		d.sent(to{0, q}, to{1, q}, to{2, q})
		for i, k := range []string{"a", "b"} {
			r := pairs("", k, k+"1")
			l := d.answer(d.seq-2+uint32(i), r)
			d.expect("Hear", d.s.Hear(l), nowhere)
			if !slices.Equal(l.Reply.Pairs, pairs("", k, k+"1").Pairs) {
				t.Fatal("what was handed in is changed")
			}
			scribble(l.Reply.Pairs, api.Pair{Key: "a", Val: "scribbled"})
		}
		l := d.answer(d.seq, pairs("", "c"))
		got := d.s.Hear(l)
		scribble(l.Reply.Pairs, api.Pair{Key: "a", Val: "scribbled"})
		want := d.gotPairs("a", "a", "a1", "a1", "b", "own", "b1", "b1", "c", "c")
		d.expect("Hear", got, want)
		scribble(got.Pairs, api.Pair{Key: "b", Val: "scribbled"})
		d.do(get("b"), d.gotValue("own"))
	}
}

// TestLittleKept: what has ended leaves nothing behind.
func TestLittleKept(t *testing.T) {
	s := opened(t, 0, 1)
	big := strings.Repeat("v", maxVal)
	answer := func(r api.Reply) {
		for _, l := range s.Out() {
			s.Hear(api.Letter{Client: l.Client, Shard: l.Shard, Seq: l.Seq, Answer: true, Reply: r})
		}
	}
	heap := func() uint64 {
		var m runtime.MemStats
		runtime.GC()
		runtime.ReadMemStats(&m)
		return m.HeapAlloc
	}
	round := func(n int) {
		s.Do(uint64(n), op(api.OpBegin))
		for i := range maxWrites {
			s.Do(0, put(fmt.Sprint("k", i), strings.Clone(big)))
		}
		s.Do(0, scan("", "", 9))
		answer(pairs(big[:200], "a", "b", "c"))
		s.Do(0, commit)
		if n%3 == 0 {
			s.Give()
			answer(undone())
			return
		}
		answer(laid(at(5)))
		if n%3 == 1 {
			s.Give()
			s.Out()
			return
		}
		answer(committed(at(5)))
		answer(fine())
	}
	for n := range 300 {
		round(n)
	}
	before := heap()
	for n := range 3000 {
		round(300 + n)
	}
	if after := heap(); after > before+1<<20 {
		t.Errorf("%d bytes more", after-before)
	}
	if !s.Quiet() {
		t.Error("not quiet")
	}
}
