package letter_test

import (
	"math"
	"math/rand"
	"slices"
	"strings"
	"testing"

	"dovecote/api"
	"dovecote/letter"
)

// P15.1: each call answers as the chapter says.

func TestExample(t *testing.T) {
	wrote(t, api.Letter{Shard: 2, Seq: 5, Ask: api.Request{Kind: api.AskDone, By: api.Txn{N: 1}}},
		"\x00\x02\x05\x00\x09\x00\x01\x00\x00\x00\x00\x00\x00\x00\x00\x00\x00")
}

// The bytes of letters, written out by hand.
func TestBytesByHand(t *testing.T) {
	for i, s := range []string{
		"\x00\x00\x00\x00" + "\x01\x00\x00\x00\x00\x00\x00\x00\x00\x00\x00\x00\x00",
		"\x01\x02\x03\x00" + "\x04\x05\x06\x07\x08\x09\x0a\x01k\x01t\x0b\x0c" + "\x02\x01b\x00\x01x\x01a\x01\x00" + "\x02\x0d\x0e\x0f\x10",
		"",
		"\x00\x00\x00\x01" + "\x00\x00\x00\x00\x00\x00\x00\x00\x00\x00\x00\x00\x00\x00",
		"\x01\x02\x03\x01" + "\x04\x05\x01\x01v" + "\x02\x01b\x01x\x01a\x01y" + "\x06\x07\x08\x09\x0a\x0b\x01p\x0c\x0d",
	} {
		if s != "" {
			wrote(t, few()[i], s)
		}
	}
	u32, time := "\xfb\xff\xff\xff\xff", "\xfe\x01\x00\x00\x00\x00\x00\x00\xf9\x0f\xff"
	s := "\x03\x07" + u32 + "\x00\x09" + u32 + u32 + time + time + "\x20" + key + "\x20" + key + "\x20\xf8\xff\x10"
	for _, w := range manyWrites(16) {
		dead := "\x00"
		if w.Dead {
			dead = "\x01"
		}
		s += "\x20" + w.Key + dead + "\xf9\x01\x00" + val
	}
	wrote(t, few()[2], s+"\x10"+strings.Repeat(u32, 32))
	s = "\x03\x07" + u32 + "\x01\x0a\xf8\xff\x01\xf9\x01\x00" + val + "\x20"
	for _, p := range manyPairs(32) {
		s += "\x20" + p.Key + "\xf9\x01\x00" + val
	}
	wrote(t, few()[5], s+u32+u32+time+time+"\x20"+key+time)
}

// The plain telling, which the other tests lean on, tells the same.
func TestFewAsPlain(t *testing.T) {
	for _, l := range few() {
		if !asPlain(t, l) || !readAsPlain(t, bytesOf(l)) {
			t.Errorf("%v isn't right", l)
		}
	}
}

func TestClientAndShard(t *testing.T) {
	for _, l := range few() {
		for _, n := range []uint32{0, 1, 2, 3, 4, 5, 6, 7, 8, 9, 247, 248, 255, 256, 259, 1 << 16, 1 << 31, math.MaxUint32} {
			x := l
			x.Client = n
			if n < 4 {
				wrote(t, x, bytesOf(x))
			} else {
				neither(t, x)
			}
			x = l
			x.Shard = n
			if n < 8 {
				wrote(t, x, bytesOf(x))
			} else {
				neither(t, x)
			}
		}
	}
	refused(t, api.Letter{Client: 4, Shard: 8, Ask: api.Request{Kind: 1}})
	refused(t, api.Letter{Client: 4, Shard: 8, Answer: true})
}

// edges answers numbers about each count of bytes up to 32 bits.
func edges() []uint32 {
	return []uint32{0, 1, 247, 248, 255, 256, 65535, 65536, 16777215, 16777216, math.MaxInt32, 1 << 31, math.MaxUint32 - 1, math.MaxUint32}
}

func TestSeq(t *testing.T) {
	for _, l := range few() {
		for _, l.Seq = range edges() {
			wrote(t, l, bytesOf(l))
		}
	}
}

// An answer whose Ask isn't zero is none, in whichever of its fields.
func TestAnswerWithAnAsk(t *testing.T) {
	for i, set := range []func(a *api.Request){
		func(a *api.Request) { a.Kind = 1 }, func(a *api.Request) { a.Kind = -1 }, func(a *api.Request) { a.Kind = 1 << 32 },
		func(a *api.Request) { a.By.Client = 1 }, func(a *api.Request) { a.By.N = 1 },
		func(a *api.Request) { a.Start.P = 1 }, func(a *api.Request) { a.Start.L = 1 },
		func(a *api.Request) { a.At.P = 1 }, func(a *api.Request) { a.At.L = 1 },
		func(a *api.Request) { a.Key = "\x00" }, func(a *api.Request) { a.To = "\x00" },
		func(a *api.Request) { a.Limit = 1 }, func(a *api.Request) { a.Limit = -1 },
		func(a *api.Request) { a.Parts = 1 }, func(a *api.Request) { a.Parts = 128 },
		func(a *api.Request) { a.Writes = writes{{}} }, func(a *api.Request) { a.Writes = writes{{Key: "a"}, {Key: "b"}} },
		func(a *api.Request) { a.Skips = txns{{}} }, func(a *api.Request) { a.Skips = txns{txn, txn} },
	} {
		for _, l := range few() {
			if !l.Answer {
				continue
			}
			set(&l.Ask)
			refused(t, l)
			if right(l) {
				t.Errorf("the plain telling takes field %d", i)
			}
		}
	}
	for _, l := range few() {
		if l.Answer {
			l.Ask = fullAsk()
			refused(t, l)
			l.Reply = api.Reply{}
			refused(t, l)
		}
	}
}

// None whose Reply isn't zero isn't right, in whichever of its fields.
func TestAskWithAReply(t *testing.T) {
	for i, set := range []func(a *api.Reply){
		func(a *api.Reply) { a.Kind = 1 }, func(a *api.Reply) { a.Kind = -1 }, func(a *api.Reply) { a.Kind = 1 << 32 },
		func(a *api.Reply) { a.Err = 1 }, func(a *api.Reply) { a.Err = -1 }, func(a *api.Reply) { a.Err = 1 << 32 },
		func(a *api.Reply) { a.Found = true }, func(a *api.Reply) { a.Val = "\x00" },
		func(a *api.Reply) { a.Pairs = pairs{{}} }, func(a *api.Reply) { a.Pairs = pairs{{Key: "a"}, {Val: "b"}} },
		func(a *api.Reply) { a.Who.Client = 1 }, func(a *api.Reply) { a.Who.N = 1 },
		func(a *api.Reply) { a.Start.P = 1 }, func(a *api.Reply) { a.Start.L = 1 },
		func(a *api.Reply) { a.At.P = 1 }, func(a *api.Reply) { a.At.L = 1 },
		func(a *api.Reply) { a.Primary = "\x00" },
		func(a *api.Reply) { a.Now.P = 1 }, func(a *api.Reply) { a.Now.L = 1 },
	} {
		for _, l := range few() {
			if l.Answer {
				continue
			}
			set(&l.Reply)
			refused(t, l)
			if right(l) {
				t.Errorf("the plain telling takes field %d", i)
			}
		}
	}
	for _, l := range few() {
		if !l.Answer {
			l.Reply = fullReply()
			refused(t, l)
			l.Ask = api.Request{}
			refused(t, l)
		}
	}
}

// The zero letter is no answer, so it asks for nothing.
func TestZeroLetter(t *testing.T) {
	neither(t, api.Letter{})
	neither(t, api.Letter{Client: 1, Shard: 1, Seq: 1})
	wrote(t, api.Letter{Answer: true}, "\x00\x00\x00\x01"+strings.Repeat("\x00", 14))
}

// A list that is empty is zero, nil or not, whatever room is behind it.
func TestEmptyLists(t *testing.T) {
	w, s, p := manyWrites(4)[:0], manySkips(4)[:0], manyPairs(4)[:0]
	for _, l := range few() {
		want := bytesOf(l)
		x := l
		if l.Answer {
			x.Ask.Writes, x.Ask.Skips = writes{}, txns{}
			wrote(t, x, want)
			x.Ask.Writes, x.Ask.Skips = w, nil
			wrote(t, x, want)
			x.Ask.Writes, x.Ask.Skips = nil, s
		} else {
			x.Reply.Pairs = pairs{}
			wrote(t, x, want)
			x.Reply.Pairs = p
		}
		wrote(t, x, want)
	}
	for _, x := range []api.Request{{Kind: 1}, {Kind: 1, Writes: writes{}, Skips: txns{}}, {Kind: 1, Writes: w, Skips: s}} {
		wrote(t, ask(x), "\x01\x02\x03\x00\x01"+strings.Repeat("\x00", 12))
	}
	for _, x := range []api.Reply{{}, {Pairs: pairs{}}, {Pairs: p}} {
		wrote(t, said(x), "\x01\x02\x03\x01"+strings.Repeat("\x00", 14))
	}
}

// The names of the Kinds and the bounds are those of the chapter.
func TestNamesOfAPI(t *testing.T) {
	for i, n := range []int{api.AskGet, api.AskScan, api.AskLay, api.AskDecide, api.AskApply, api.AskUndo, api.AskPush, api.AskSafe, api.AskDone} {
		wrote(t, ask(api.Request{Kind: n}), "\x01\x02\x03\x00"+string([]byte{byte(i + 1)})+strings.Repeat("\x00", 12))
	}
	for i, n := range []int{api.SaidError, api.SaidValue, api.SaidPairs, api.SaidLocked, api.SaidLaid, api.SaidCommitted, api.SaidUndone, api.SaidLow, api.SaidPushed, api.SaidFine, api.SaidConflict} {
		wrote(t, said(api.Reply{Kind: n}), "\x01\x02\x03\x01"+string([]byte{byte(i)})+strings.Repeat("\x00", 13))
	}
	if api.MaxClients != maxClients || api.MaxShards != maxShards || api.MaxKey != maxKey || api.MaxVal != maxVal || api.MaxWrites != maxWrites || api.MaxSkips != maxSkips || api.MaxScan != maxScan {
		t.Error("another limit")
	}
}

// ints answers numbers about the bounds of all that are ints, and such as are within them if they are cut to fewer bits.
func ints() []int {
	l := []int{math.MinInt, math.MinInt + 1, math.MinInt32, -1 << 16, -256, -255, -2, -1, math.MaxInt32, math.MaxInt}
	for n := range 300 {
		l = append(l, n)
	}
	for n := range 12 {
		l = append(l, n+1<<8, n+1<<16, n+1<<32, n+math.MinInt)
	}
	return l
}

func TestKinds(t *testing.T) {
	for _, n := range ints() {
		for _, l := range few() {
			least, most := 1, 9
			if l.Answer {
				least, most = 0, 10
				l.Reply.Kind = n
			} else {
				l.Ask.Kind = n
			}
			if n >= least && n <= most {
				wrote(t, l, bytesOf(l))
			} else {
				neither(t, l)
			}
		}
	}
}

func TestErr(t *testing.T) {
	for _, n := range ints() {
		for kind := range 11 {
			l := said(api.Reply{Kind: kind, Err: api.Errno(n)})
			if n >= 0 && n <= 255 {
				wrote(t, l, bytesOf(l))
			} else {
				neither(t, l)
			}
		}
	}
}

func TestLimit(t *testing.T) {
	for _, n := range ints() {
		for kind := 1; kind <= 9; kind++ {
			l := ask(api.Request{Kind: kind, Limit: n})
			if n >= 0 && n <= 32 {
				wrote(t, l, bytesOf(l))
			} else {
				neither(t, l)
			}
		}
	}
}

func TestParts(t *testing.T) {
	for n := range uint64(256) {
		wrote(t, ask(api.Request{Kind: 4, Parts: uint8(n)}), "\x01\x02\x03\x00\x04"+strings.Repeat("\x00", 9)+number(n)+"\x00\x00")
	}
}

// withStamp answers l with u in each place of a stamp, one by one.
func withStamp(l api.Letter, u api.Ts) []api.Letter {
	a, b, c := l, l, l
	if l.Answer {
		a.Reply.Start, b.Reply.At, c.Reply.Now = u, u, u
		return []api.Letter{a, b, c}
	}
	a.Ask.Start, b.Ask.At = u, u
	return []api.Letter{a, b}
}

func TestStamps(t *testing.T) {
	for _, l := range few() {
		for _, u := range rightStamps() {
			for _, well := range withStamp(l, u) {
				wrote(t, well, bytesOf(well))
			}
		}
		for _, u := range wrongStamps() {
			for _, wrong := range withStamp(l, u) {
				neither(t, wrong)
			}
		}
	}
}

func TestTransactions(t *testing.T) {
	for _, n := range edges() {
		for _, by := range []api.Txn{{Client: n, N: 3}, {Client: 3, N: n}, {Client: n, N: n}} {
			a, b := fullAsk(), fullReply()
			a.By, b.Who = by, by
			wrote(t, ask(a), bytesOf(ask(a)))
			wrote(t, said(b), bytesOf(said(b)))
			for place := range 16 {
				a = fullAsk()
				a.Skips = make(txns, 16)
				a.Skips[place] = by
				wrote(t, ask(a), bytesOf(ask(a)))
			}
		}
	}
}

// withText answers l with s in each place of a text that may have as many bytes as a key or as a value, one by one.
func withText(l api.Letter, s string) (keys, vals []api.Letter) {
	if l.Answer {
		l.Reply.Pairs = append(slices.Clone(l.Reply.Pairs[1:]), api.Pair{Key: "q", Val: "r"})
		a, b, c, d := l, l, l, l
		a.Reply.Primary, b.Reply.Val = s, s
		c.Reply.Pairs = append(slices.Clone(l.Reply.Pairs[1:]), api.Pair{Key: s, Val: "r"})
		d.Reply.Pairs = append(slices.Clone(l.Reply.Pairs[1:]), api.Pair{Key: "q", Val: s})
		return []api.Letter{a, c}, []api.Letter{b, d}
	}
	a, b, c, d, e := l, l, l, l, l
	a.Ask.Key, b.Ask.To = s, s
	c.Ask.Writes = append(slices.Clone(l.Ask.Writes[1:]), api.Write{Key: s, Val: "r"})
	d.Ask.Writes = append(slices.Clone(l.Ask.Writes[1:]), api.Write{Key: "q", Val: s})
	e.Ask.Writes = append(slices.Clone(l.Ask.Writes[1:]), api.Write{Key: "q", Val: s, Dead: true})
	return []api.Letter{a, b, c}, []api.Letter{d, e}
}

func TestTexts(t *testing.T) {
	sizes := []int{0, 1, 2, 31, 32, 33, 64, 247, 248, 255, 256, 257, 258, 288, 512, 65536, 1 << 20}
	for n := range 300 {
		sizes = append(sizes, n)
	}
	for _, n := range sizes {
		for _, l := range []api.Letter{ask(fullAsk()), said(fullReply())} {
			keys, vals := withText(l, strings.Repeat("\xff", n))
			for _, x := range keys {
				if n <= 32 {
					wrote(t, x, bytesOf(x))
				} else {
					neither(t, x)
				}
			}
			for _, x := range vals {
				if n <= 256 {
					wrote(t, x, bytesOf(x))
				} else {
					neither(t, x)
				}
			}
		}
	}
	for _, s := range []string{"", "\x00", "\x00\x00", "\xf8\xff", "é", "a\x00b"} {
		for _, l := range []api.Letter{ask(fullAsk()), said(fullReply())} {
			keys, vals := withText(l, s)
			for _, x := range slices.Concat(keys, vals) {
				wrote(t, x, bytesOf(x))
			}
		}
	}
}

// A text that is too long is so at each place of a list.
func TestTextsAtEachPlace(t *testing.T) {
	for place := range maxWrites {
		for _, w := range []api.Write{{Key: key + "k"}, {Key: key + "k", Val: val}, {Val: val + "v"}, {Key: key, Val: val + "v"}, {Val: val + "v", Dead: true}} {
			a := greatAsk()
			a.Writes[place] = w
			neither(t, ask(a))
		}
	}
	for place := range maxScan {
		for _, p := range []api.Pair{{Key: key + "k"}, {Key: key + "k", Val: val}, {Val: val + "v"}, {Key: key, Val: val + "v"}} {
			a := greatReply()
			a.Pairs[place] = p
			neither(t, said(a))
		}
	}
}

// Lists of every length about their bounds, and far above.
func TestCounts(t *testing.T) {
	for n := range 300 {
		a, b, c := fullAsk(), fullAsk(), fullReply()
		a.Writes, b.Skips, c.Pairs = make(writes, n), make(txns, n), make(pairs, n)
		for _, x := range []api.Letter{ask(a), ask(b)} {
			if n <= 16 {
				wrote(t, x, bytesOf(x))
			} else {
				neither(t, x)
			}
		}
		if n <= 32 {
			wrote(t, said(c), bytesOf(said(c)))
		} else {
			neither(t, said(c))
		}
	}
	for _, n := range []int{1 << 16, 1<<16 + 1, 1 << 20} {
		refused(t, ask(api.Request{Kind: 1, Writes: make(writes, n)}))
		refused(t, ask(api.Request{Kind: 1, Skips: make(txns, n)}))
		refused(t, said(api.Reply{Pairs: make(pairs, n)}))
	}
}

// A letter is bounded, and no more: what its writes are, how its stamps stand and whether a Kind needs a field isn't asked.
func TestNoMoreIsAsked(t *testing.T) {
	for _, l := range []writes{
		{{}},
		{{}, {}},
		{{Key: "a"}, {Key: "a"}},
		{{Key: "b"}, {Key: "a"}, {Key: "b", Dead: true}},
		{{Key: "a", Val: "x", Dead: true}},
		{{Val: val, Dead: true}},
		slices.Repeat(writes{{Key: key, Val: val, Dead: true}}, 16),
	} {
		for kind := 1; kind <= 9; kind++ {
			a := api.Request{Kind: kind, Start: at(9), At: at(5), Key: "z", To: "a", Writes: l}
			wrote(t, ask(a), bytesOf(ask(a)))
		}
	}
	for kind := range 11 {
		for _, a := range []api.Reply{
			{Kind: kind},
			{Kind: kind, Val: "x"},
			{Kind: kind, Found: true},
			{Kind: kind, Err: 5, Found: true, Val: "x"},
			{Kind: kind, Pairs: pairs{{}}},
			{Kind: kind, Pairs: pairs{{Key: "b"}, {Key: "a"}, {Key: "b"}}},
			{Kind: kind, Start: at(9), At: at(5), Now: at(1)},
		} {
			wrote(t, said(a), bytesOf(said(a)))
		}
	}
	for kind := 1; kind <= 9; kind++ {
		a := fullAsk()
		a.Kind = kind
		wrote(t, ask(a), bytesOf(ask(a)))
		a = greatAsk()
		a.Kind = kind
		wrote(t, ask(a), bytesOf(ask(a)))
	}
	for kind := range 11 {
		a := fullReply()
		a.Kind = kind
		wrote(t, said(a), bytesOf(said(a)))
	}
	// By and Skips may be of any client, also of one that isn't there, and of the same.
	wrote(t, ask(api.Request{Kind: 1, By: last, Skips: txns{last, last, {}, {}}}), bytesOf(ask(api.Request{Kind: 1, By: last, Skips: txns{last, last, {}, {}}})))
}

// Requests with each field set to one of few values.
func TestAsksOfFewValues(t *testing.T) {
	taken := 0
	stamps := []api.Ts{none, at(5), {P: maxPhys, L: maxLogic + 1}}
	texts := []string{"", "a", key + "k"}
	for _, kind := range []int{-1, 0, 1, 9, 10} {
		for _, start := range stamps {
			for _, end := range stamps {
				for _, k := range texts {
					for _, to := range texts {
						for _, limit := range []int{-1, 0, 32, 33} {
							for _, l := range []writes{nil, {{Key: "a"}}, {{Key: key + "k"}}, {{Val: val + "v"}}, make(writes, 17)} {
								for _, skips := range []txns{nil, {txn}, make(txns, 17)} {
									if asPlain(t, ask(api.Request{Kind: kind, Start: start, At: end, Key: k, To: to, Limit: limit, Writes: l, Skips: skips})) {
										taken++
									}
								}
							}
						}
					}
				}
			}
		}
	}
	if taken != 2*2*2*2*2*2*2*2 {
		t.Errorf("%d of them are right", taken)
	}
}

// Replies with each field set to one of few values.
func TestRepliesOfFewValues(t *testing.T) {
	taken := 0
	stamps := []api.Ts{none, at(5), {P: maxPhys + 1}}
	for _, kind := range []int{-1, 0, 10, 11} {
		for _, err := range []api.Errno{-1, 0, 255, 256} {
			for _, v := range []string{"", val, val + "v"} {
				for _, l := range []pairs{nil, {{Key: "a"}}, {{Key: key + "k"}}, {{Val: val + "v"}}, make(pairs, 33)} {
					for _, start := range stamps {
						for _, end := range stamps {
							for _, now := range stamps {
								for _, p := range []string{"", key, key + "k"} {
									if asPlain(t, said(api.Reply{Kind: kind, Err: err, Val: v, Pairs: l, Start: start, At: end, Now: now, Primary: p})) {
										taken++
									}
								}
							}
						}
					}
				}
			}
		}
	}
	if taken != 2*2*2*2*2*2*2*2 {
		t.Errorf("%d of them are right", taken)
	}
}

// Bytes that are no letter.

func TestReadNothing(t *testing.T) {
	unread(t, "")
	taken := 0
	for b := range 256 {
		for n := range 40 {
			if readAsPlain(t, strings.Repeat(string([]byte{byte(b)}), n)) {
				taken++
			}
		}
	}
	// One byte all along is a letter just once: an answer all of whose numbers are 1.
	one := api.Ts{P: 1, L: 1}
	wrote(t, api.Letter{Client: 1, Shard: 1, Seq: 1, Answer: true, Reply: api.Reply{
		Kind: 1, Err: 1, Found: true, Val: "\x01", Pairs: pairs{{Key: "\x01", Val: "\x01"}},
		Who: api.Txn{Client: 1, N: 1}, Start: one, At: one, Primary: "\x01", Now: one,
	}}, strings.Repeat("\x01", 24))
	if taken != 1 {
		t.Errorf("%d of them are letters", taken)
	}
}

func TestReadBeginnings(t *testing.T) {
	for _, l := range few() {
		s := bytesOf(l)
		for n := range len(s) {
			unread(t, s[:n])
		}
	}
}

func TestReadWithMoreBehind(t *testing.T) {
	for _, l := range few() {
		s := bytesOf(l)
		for b := range 256 {
			unread(t, s+string([]byte{byte(b)}))
			unread(t, string([]byte{byte(b)})+s)
		}
		for _, more := range few() {
			unread(t, s+bytesOf(more))
		}
	}
}

// A number has one form: with more bytes than it needs it is none, wherever it stands.
func TestReadLongNumbers(t *testing.T) {
	for _, l := range few() {
		p := piecesOf(l)
		for i, one := range p {
			head, tail := join(p[:i]), join(p[i+1:])
			n, rest := one.n, ""
			switch one.what {
			case 'f':
				continue
			case 't':
				n, rest = uint64(len(one.s)), one.s
			}
			for behind := 1; behind <= 8; behind++ {
				as := long(n, behind)
				if behind < 8 && n>>(8*behind) != 0 {
					continue // it doesn't hold n
				}
				if as == number(n) {
					wrote(t, l, head+as+rest+tail)
				} else {
					unread(t, head+as+rest+tail)
				}
			}
		}
	}
}

// beside answers numbers about the bounds of a piece, and such as are within them if they are cut to fewer bits.
func beside(p piece) []uint64 {
	l := []uint64{0, 1, p.least, p.least + 1, p.most - 1, p.most, p.most + 1, p.most + 2, 2*p.most + 1, math.MaxUint64}
	for _, bits := range []int{8, 16, 32, 63} {
		l = append(l, 1<<bits, 1<<bits+p.least, 1<<bits+p.most)
	}
	return l
}

// A number above its bound, or below it, is none, in each place.
func TestReadNumbersAtTheirBounds(t *testing.T) {
	for _, l := range few() {
		p := piecesOf(l)
		for i, one := range p {
			if one.what != 'n' {
				continue
			}
			for _, n := range beside(one) {
				p[i].n = n
				s := join(p)
				if n >= one.least && n <= one.most {
					if !readAsPlain(t, s) {
						t.Fatalf("Read(%x): no letter, with %d as piece %d", s, n, i)
					}
				} else {
					unread(t, s)
				}
			}
			p[i].n = one.n
		}
	}
}

// A flag that is neither, in each place.
func TestReadFlags(t *testing.T) {
	for _, l := range few() {
		p := piecesOf(l)
		for i, one := range p {
			if one.what != 'f' {
				continue
			}
			for b := range uint64(256) {
				p[i].n = b
				// The one that tells whether it is an answer tells what must stand behind it, too.
				if s := join(p); b < 2 && i != 3 {
					if !readAsPlain(t, s) {
						t.Fatalf("Read(%x): no letter, with the flag %d as piece %d", s, b, i)
					}
				} else if b != one.n {
					unread(t, s)
				}
			}
			p[i].n = one.n
		}
	}
}

// A count that is above its bound, or tells of more or fewer than there are.
func TestReadCounts(t *testing.T) {
	for _, l := range few() {
		p := piecesOf(l)
		for i, one := range p {
			if one.what != 'c' {
				continue
			}
			for _, n := range append(beside(one), 2, 3, 5, 15, 17, 31, 33) {
				p[i].n = n
				if n > one.most {
					unread(t, join(p))
					unread(t, join(p[:i+1]))
				} else {
					readAsPlain(t, join(p))
				}
			}
			p[i].n = one.n
		}
	}
}

// As many as the count says, and yet too many.
func TestReadListsThatAreTooLong(t *testing.T) {
	for n := range 80 {
		head, tail := "\x01\x02\x03\x00\x01"+strings.Repeat("\x00", 10), strings.Repeat("\x00", 9)
		for _, c := range []struct {
			s    string
			most int
		}{
			{head + number(uint64(n)) + strings.Repeat("\x01k\x01\x01v", n) + "\x00", 16},
			{head + "\x00" + number(uint64(n)) + strings.Repeat("\x04\x05", n), 16},
			{"\x01\x02\x03\x01\x00\x00\x00\x00" + number(uint64(n)) + strings.Repeat("\x01k\x01v", n) + tail, 32},
		} {
			got, err := letter.Read(c.s)
			if n > c.most {
				unread(t, c.s)
			} else if err != api.OK || len(got.Ask.Writes)+len(got.Ask.Skips)+len(got.Reply.Pairs) != n {
				t.Fatalf("Read(%x): %v %d", c.s, got, err)
			}
			readAsPlain(t, c.s)
		}
	}
}

// A text that is longer than may be, or tells of more bytes than there are.
func TestReadTexts(t *testing.T) {
	for _, l := range few() {
		p := piecesOf(l)
		for i, one := range p {
			if one.what != 't' {
				continue
			}
			for _, n := range []int{0, 1, 31, 32, 33, 247, 248, 255, 256, 257, 300} {
				p[i].s = strings.Repeat("\x01", n)
				if n <= int(one.most) {
					if !readAsPlain(t, join(p)) {
						t.Fatalf("Read(%x): no letter", join(p))
					}
				} else {
					unread(t, join(p))
				}
			}
			p[i].s = one.s
			head, tail := join(p[:i]), join(p[i+1:])
			for _, n := range beside(one) {
				if n > one.most {
					unread(t, head+number(n)+one.s+tail)
				} else {
					readAsPlain(t, head+number(n)+one.s+tail)
				}
			}
		}
	}
}

func TestReadWithOneByteTurned(t *testing.T) {
	taken := 0
	for _, l := range few() {
		s := []byte(bytesOf(l))
		for place, is := range s {
			turned := []byte{is + 1, 248}
			for b := 0; b < 256 && len(s) < 100; b++ {
				turned = append(turned, byte(b)) // the great ones are long: not all of them there
			}
			for _, b := range turned {
				s[place] = b
				if readAsPlain(t, string(s)) {
					taken++
				}
			}
			s[place] = is
		}
	}
	if taken < 10000 {
		t.Errorf("only %d of them are letters", taken)
	}
}

func TestReadWithTwoBytesTurned(t *testing.T) {
	taken := 0
	for i, l := range few() {
		if i%3 == 2 {
			continue // the great ones are long
		}
		s := []byte(bytesOf(l))
		for one, was := range s {
			for two := range one {
				is := s[two]
				for _, b := range []byte{0, 1, 2, 4, 8, 10, 11, 17, 33, 248} {
					for _, c := range []byte{0, 1, 2, 4, 8, 10, 11, 17, 33, 248} {
						s[one], s[two] = b, c
						if readAsPlain(t, string(s)) {
							taken++
						}
					}
				}
				s[one], s[two] = was, is
			}
		}
	}
	if taken < 10000 {
		t.Errorf("only %d of them are letters", taken)
	}
}

// Read of Write is the letter; what Read takes Write gives.

func TestLettersByChance(t *testing.T) {
	r := rand.New(rand.NewSource(15))
	var kinds [2][11]int
	wrong := 0
	for range 60000 {
		l := chance(r)
		switch {
		case !asPlain(t, l):
			wrong++
		case l.Answer:
			kinds[1][l.Reply.Kind]++
		default:
			kinds[0][l.Ask.Kind]++
		}
	}
	for kind := range 11 {
		if kind >= 1 && kind <= 9 && kinds[0][kind] < 1000 || kinds[1][kind] < 1000 {
			t.Errorf("only %d and %d of Kind %d", kinds[0][kind], kinds[1][kind], kind)
		}
	}
	if wrong < 1000 {
		t.Errorf("only %d that aren't right", wrong)
	}
}

// No two letters have the same bytes.
func TestBytesDiffer(t *testing.T) {
	r := rand.New(rand.NewSource(16))
	whose := map[string]api.Letter{}
	for range 40000 {
		l := chance(r)
		s, err := letter.Write(l)
		if err != api.OK {
			continue
		}
		if before, ok := whose[s]; ok && !same(before, l) {
			t.Fatalf("%x are the bytes of %v and of %v", s, before, l)
		}
		whose[s] = l
	}
	if len(whose) < 20000 {
		t.Errorf("only %d letters", len(whose))
	}
}

// Bytes of letters in which some are turned, cut out, put in or doubled.
func TestSpoiltBytesByChance(t *testing.T) {
	r := rand.New(rand.NewSource(17))
	taken := 0
	for range 60000 {
		s, _ := letter.Write(chance(r))
		l := []byte(s)
		for range 1 + r.Intn(3) {
			place := r.Intn(min(len(l), 60) + 1)
			switch r.Intn(4) {
			case 0:
				l = slices.Insert(l, place, byte(r.Intn(256)))
			case 1:
				l = slices.Delete(l, place, min(place+1+r.Intn(3), len(l)))
			case 2:
				l = append(l, l[place:]...)
			default:
				if place < len(l) {
					l[place] = byte(r.Intn(12))
				}
			}
		}
		if readAsPlain(t, string(l)) {
			taken++
		}
	}
	if taken < 1000 {
		t.Errorf("only %d of them are letters", taken)
	}
}

// Bytes by chance, most of them few, so that some are letters.
func TestBytesByChance(t *testing.T) {
	r := rand.New(rand.NewSource(18))
	taken := 0
	for range 200000 {
		l := make([]byte, 15+r.Intn(12))
		for i := range l {
			switch r.Intn(40) {
			case 0:
				l[i] = byte(r.Intn(256))
			case 1, 2, 3, 4:
				l[i] = byte(r.Intn(5))
			}
		}
		if readAsPlain(t, string(l)) {
			taken++
		}
	}
	if taken < 1000 {
		t.Errorf("only %d of them are letters", taken)
	}
}

// Bytes without end, and such as would have lists and texts of any length.
func TestReadGreatBytes(t *testing.T) {
	for _, b := range []string{"\x00", "\x01", "\x20", "\xf8", "\xff"} {
		for _, n := range []int{17, 18, 1000, 1 << 16, 1 << 20} {
			unread(t, strings.Repeat(b, n))
			unread(t, bytesOf(few()[1])+strings.Repeat(b, n))
		}
	}
}

// R4, R7: memory, and one answer.

// withRoom answers a copy of l that has others behind it.
func withRoom[T any](l []T, others ...T) (list, room []T) {
	room = slices.Concat(l, others)
	return room[:len(l)], room
}

// What is handed in is neither changed nor kept, the room behind a list neither.
func TestArgumentsAreLeft(t *testing.T) {
	a, b := fullAsk(), fullReply()
	var w writes
	var s txns
	var p pairs
	a.Writes, w = withRoom(a.Writes, manyWrites(3)...)
	a.Skips, s = withRoom(a.Skips, manySkips(3)...)
	b.Pairs, p = withRoom(b.Pairs, manyPairs(3)...)
	wasW, wasS, wasP := slices.Clone(w), slices.Clone(s), slices.Clone(p)
	var all []string
	for _, l := range []api.Letter{ask(a), said(b)} {
		letter.Right(l)
		got, _ := letter.Write(l)
		all = append(all, got)
		l.Client = 4
		letter.Right(l)
		letter.Write(l)
	}
	if !slices.Equal(w, wasW) || !slices.Equal(s, wasS) || !slices.Equal(p, wasP) {
		t.Fatal("a list that was handed in is another")
	}
	for i := range w {
		w[i] = api.Write{Key: "other", Val: "o"}
	}
	for i := range s {
		s[i] = last
	}
	for i := range p {
		p[i] = api.Pair{Key: "other", Val: "o"}
	}
	if all[0] != bytesOf(ask(fullAsk())) || all[1] != bytesOf(said(fullReply())) {
		t.Fatalf("the bytes have become %x", all)
	}
	wrote(t, ask(fullAsk()), all[0])
	wrote(t, said(fullReply()), all[1])
}

// A list that was answered is new memory: what is done with it changes no other answer.
func TestAnswersAreNew(t *testing.T) {
	for _, l := range few() {
		s := bytesOf(l)
		a, _ := letter.Read(s)
		b, _ := letter.Read(s)
		for i := range a.Ask.Writes {
			a.Ask.Writes[i] = api.Write{Key: "other", Dead: true}
		}
		for i := range a.Ask.Skips {
			a.Ask.Skips[i] = api.Txn{Client: 99}
		}
		for i := range a.Reply.Pairs {
			a.Reply.Pairs[i] = api.Pair{Key: "other"}
		}
		a.Ask.Writes = append(a.Ask.Writes, api.Write{Key: "more"})
		a.Ask.Skips = append(a.Ask.Skips, last)
		a.Reply.Pairs = append(a.Reply.Pairs, api.Pair{Key: "more"})
		if !same(b, l) {
			t.Fatalf("%v, was %v", b, l)
		}
		wrote(t, l, s)
	}
}

// Calls in any order answer the same.
func TestOneAnswer(t *testing.T) {
	r := rand.New(rand.NewSource(19))
	for range 3000 {
		l := few()[r.Intn(6)]
		wrote(t, l, bytesOf(l))
		if r.Intn(2) == 0 {
			l.Shard = 8
			neither(t, l)
		}
	}
}
