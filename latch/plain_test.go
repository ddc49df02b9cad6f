package latch_test

import (
	"math"
	"slices"
	"sort"
	"strings"
	"testing"

	"dovecote/api"
	"dovecote/latch"
)

const (
	maxPhys   = uint64(281474976710656)
	maxLogic  = uint32(4095)
	maxVal    = 256
	maxKey    = 32
	maxWrites = 16
)

var (
	one      = api.Txn{Client: 1, N: 1}
	two      = api.Txn{Client: 1, N: 2}
	three    = api.Txn{Client: 2, N: 1}
	greatest = api.Ts{P: maxPhys, L: maxLogic}
	beyond   = api.Ts{P: math.MaxUint64, L: math.MaxUint32}
)

type writes = []api.Write

type intents = []api.Intent

// at answers a stamp of whole numbers alone.
func at(p uint64) api.Ts { return api.Ts{P: p} }

// above tells whether a is later than b.
func above(a, b api.Ts) bool { return a.P > b.P || a.P == b.P && a.L > b.L }

// right tells whether u is within the limits of stamps.
func right(u api.Ts) bool { return u.P <= maxPhys && u.L <= maxLogic }

// of answers writes of keys, with the keys' own texts as values.
func of(keys ...string) writes {
	var l writes
	for _, k := range keys {
		l = append(l, api.Write{Key: k, Val: k})
	}
	return l
}

// intent answers what Lay of a write of key, with its own text as value, makes.
func intent(by api.Txn, start, least uint64, primary, key string) api.Intent {
	return api.Intent{By: by, Start: at(start), Min: at(least), Primary: primary, Write: api.Write{Key: key, Val: key}}
}

// teller is what the table and the plain one answer.
type teller interface {
	Lay(by api.Txn, start, min api.Ts, primary string, l []api.Write) api.Errno
	Of(key string) (api.Intent, bool)
	By(by api.Txn) []api.Intent
	Cut(by api.Txn) []api.Intent
	Raise(by api.Txn, min api.Ts) bool
	First(from, to string, at api.Ts, but []api.Txn) (api.Intent, bool)
	All() []api.Intent
}

// plain is the document's words a second time, without a tree and without what intents have in common: whole intents, in the order of keys.
type plain struct {
	laid intents
}

// plainRight tells whether l is Right.
func plainRight(l writes) bool {
	var keys []string
	for _, w := range l {
		if w.Key == "" || len(w.Key) > maxKey || len(w.Val) > maxVal || w.Dead && len(w.Val) > 0 {
			return false
		}
		keys = append(keys, w.Key)
	}
	sort.Strings(keys)
	return len(l) > 0 && len(l) <= maxWrites && len(slices.Compact(keys)) == len(l)
}

func (p *plain) Lay(by api.Txn, start, min api.Ts, primary string, l []api.Write) api.Errno {
	if !plainRight(l) || !right(start) || !right(min) || primary == "" || len(primary) > maxKey {
		return api.ErrArg
	}
	for _, i := range p.laid {
		for _, w := range l {
			if i.By == by || i.Write.Key == w.Key {
				return api.ErrBusy
			}
		}
	}
	for _, w := range l {
		p.laid = append(p.laid, api.Intent{By: by, Start: start, Min: min, Primary: primary, Write: w})
	}
	sort.Slice(p.laid, func(i, j int) bool { return p.laid[i].Write.Key < p.laid[j].Write.Key })
	return api.OK
}

func (p *plain) Of(key string) (api.Intent, bool) {
	for _, i := range p.laid {
		if i.Write.Key == key {
			return i, true
		}
	}
	return api.Intent{}, false
}

func (p *plain) By(by api.Txn) []api.Intent {
	var l intents
	for _, i := range p.laid {
		if i.By == by {
			l = append(l, i)
		}
	}
	return l
}

func (p *plain) Cut(by api.Txn) []api.Intent {
	l := p.By(by)
	p.laid = slices.DeleteFunc(p.laid, func(i api.Intent) bool { return i.By == by })
	return l
}

func (p *plain) Raise(by api.Txn, min api.Ts) bool {
	found := false
	for n, i := range p.laid {
		if i.By == by && right(min) {
			found = true
			if above(min, i.Min) {
				p.laid[n].Min = min
			}
		}
	}
	return found
}

func (p *plain) First(from, to string, at api.Ts, but []api.Txn) (api.Intent, bool) {
	for _, i := range p.laid {
		k := i.Write.Key
		if k >= from && (to == "" || k < to) && !above(i.Min, at) && !slices.Contains(but, i.By) {
			return i, true
		}
	}
	return api.Intent{}, false
}

func (p *plain) All() []api.Intent { return slices.Clone(p.laid) }

// alike holds what x tells of keys, transactions, ends, stamps and buts against what p tells.
func alike(t *testing.T, x, p teller, keys []string, names []api.Txn, ends []string, stamps []api.Ts, buts [][]api.Txn) {
	t.Helper()
	if got, want := x.All(), p.All(); !slices.Equal(got, want) {
		t.Fatalf("All: %v, want %v", got, want)
	}
	for _, k := range keys {
		got, ok := x.Of(k)
		want, has := p.Of(k)
		if got != want || ok != has {
			t.Fatalf("Of(%q): %v %t, want %v %t", k, got, ok, want, has)
		}
	}
	for _, by := range names {
		if got, want := x.By(by), p.By(by); !slices.Equal(got, want) {
			t.Fatalf("By(%v): %v, want %v", by, got, want)
		}
	}
	for _, from := range ends {
		for _, to := range ends {
			for _, u := range stamps {
				for _, but := range buts {
					got, ok := x.First(from, to, u, but)
					want, has := p.First(from, to, u, but)
					if got != want || ok != has {
						t.Fatalf("First(%q, %q, %v, %v): %v %t, want %v %t", from, to, u, but, got, ok, want, has)
					}
				}
			}
		}
	}
}

// lay lays writes of keys in x, which must take them.
func lay(t *testing.T, x teller, by api.Txn, start, least uint64, primary string, keys ...string) {
	t.Helper()
	if err := x.Lay(by, at(start), at(least), primary, of(keys...)); err != api.OK {
		t.Fatalf("Lay(%v, %q): %d", by, keys, err)
	}
}

// full answers a table with intents of one (a, c, e since 5, 6 at least) and of two (b, d since 7, 8 at least).
func full(t *testing.T) *latch.Table {
	t.Helper()
	x := latch.New()
	lay(t, x, one, 5, 6, "c", "e", "a", "c")
	lay(t, x, two, 7, 8, "q", "d", "b")
	return x
}

// fullIntents answers what the table of full has.
func fullIntents() intents {
	return intents{intent(one, 5, 6, "c", "a"), intent(two, 7, 8, "q", "b"), intent(one, 5, 6, "c", "c"), intent(two, 7, 8, "q", "d"), intent(one, 5, 6, "c", "e")}
}

// told answers the keys of l.
func told(l intents) string {
	var keys []string
	for _, i := range l {
		keys = append(keys, i.Write.Key)
	}
	return strings.Join(keys, " ")
}

// many answers n writes of keys of their own.
func many(n int) writes {
	var l writes
	for i := range n {
		l = append(l, api.Write{Key: wide(i), Val: "v"})
	}
	return l
}

// wide answers a key of two bytes.
func wide(i int) string { return string([]byte{byte(i >> 8), byte(i)}) }

// noKeys answers texts that are no keys.
func noKeys() []string {
	return []string{"", strings.Repeat("k", maxKey+1), strings.Repeat("\x00", maxKey+1), strings.Repeat("k", 70000)}
}

// wrongStamps answers stamps that aren't right.
func wrongStamps() []api.Ts {
	return []api.Ts{{P: maxPhys + 1}, {P: 5, L: maxLogic + 1}, {P: maxPhys + 1, L: maxLogic + 1}, {P: math.MaxUint64}, {L: math.MaxUint32}, beyond}
}

// rightLists answers lists that are Right.
func rightLists() []writes {
	longKey, longVal := strings.Repeat("k", maxKey), strings.Repeat("v", maxVal)
	sixteen := many(maxWrites)
	sixteen[0] = api.Write{Key: longKey, Val: longVal}
	sixteen[maxWrites-1] = api.Write{Key: strings.Repeat("\xff", maxKey), Dead: true}
	return []writes{
		{{Key: "k", Val: "v"}},
		{{Key: "k"}},
		{{Key: "k", Dead: true}},
		{{Key: "\x00"}},
		{{Key: longKey[1:]}},
		{{Key: longKey}},
		{{Key: "k", Val: longVal[1:]}},
		{{Key: "k", Val: longVal}},
		{{Key: "k", Val: strings.Repeat("\x00", maxVal)}},
		{{Key: longKey, Val: longVal}},
		{{Key: longKey, Dead: true}},
		{{Key: "a"}, {Key: "b"}},
		{{Key: "b"}, {Key: "a"}},
		{{Key: "b", Dead: true}, {Key: "a", Dead: true}},
		{{Key: "k", Val: "same"}, {Key: "l", Val: "same"}},
		{{Key: "k"}, {Key: "k\x00"}, {Key: "kk"}, {Key: "K"}},
		{{Key: longKey}, {Key: longKey[1:]}, {Key: longKey[2:]}},
		{{Key: "\xff"}, {Key: "\xc3\x28"}, {Key: "é"}},
		many(2), many(15), many(16), sixteen,
	}
}

// wrongLists answers lists that aren't Right.
func wrongLists() []writes {
	longKey, longVal := strings.Repeat("k", maxKey+1), strings.Repeat("v", maxVal+1)
	all := []writes{
		nil,
		{},
		many(17), many(18), many(1000),
		append(many(16), many(16)...),
		{{}},
		{{Key: "", Val: "v"}},
		{{Key: "", Dead: true}},
		{{Key: longKey}},
		{{Key: longKey, Dead: true}},
		{{Key: strings.Repeat("k", 70000)}},
		{{Key: "k", Val: longVal}},
		{{Key: "k", Val: strings.Repeat("v", 70000)}},
		{{Key: "k", Val: "v", Dead: true}},
		{{Key: "k", Val: "\x00", Dead: true}},
		{{Key: "k", Val: longVal[1:], Dead: true}},
		{{Key: "k", Val: longVal, Dead: true}},
		// Two of one key: next to each other and not, whatever else they say.
		{{Key: "k"}, {Key: "k"}},
		{{Key: "k", Val: "v"}, {Key: "k", Val: "v"}},
		{{Key: "k", Val: "v"}, {Key: "k", Val: "w"}},
		{{Key: "k", Val: "v"}, {Key: "k", Dead: true}},
		{{Key: "k", Dead: true}, {Key: "k", Dead: true}},
		{{Key: "k"}, {Key: "l"}, {Key: "k"}},
		{{Key: "k"}, {Key: "l"}, {Key: "l"}},
		{{Key: "l"}, {Key: "l"}, {Key: "k"}},
		{{Key: "k"}, {Key: "k"}, {Key: "k"}},
		{{Key: "a"}, {Key: "k"}, {Key: "b"}, {Key: "c"}, {Key: "k"}, {Key: "d"}},
	}
	// One of them is wrong, at each place.
	for place := range maxWrites {
		for _, w := range (writes{{}, {Key: longKey}, {Key: "k", Val: longVal}, {Key: "k", Val: "v", Dead: true}}) {
			l := many(maxWrites)
			l[place] = w
			all = append(all, l)
		}
		for other := range place {
			l := many(maxWrites)
			l[place].Key = l[other].Key
			all = append(all, l)
		}
	}
	return all
}
