package store_test

import (
	"math"
	"slices"
	"sort"
	"strings"
	"testing"

	"dovecote/api"
	"dovecote/store"
)

const (
	maxPhys  = uint64(281474976710656)
	maxLogic = uint32(4095)
	maxVal   = 256
	maxChain = 1000
	maxKey   = 32
	maxScan  = 32
)

var (
	one      = api.Txn{Client: 1, N: 1}
	two      = api.Txn{Client: 1, N: 2}
	greatest = api.Ts{P: maxPhys, L: maxLogic}
	beyond   = api.Ts{P: math.MaxUint64, L: math.MaxUint32}
)

type list = []api.Version

// at answers a stamp of whole numbers alone.
func at(p uint64) api.Ts { return api.Ts{P: p} }

// live and dead answer versions by one, at stamps of whole numbers.
func live(p uint64, val string) api.Version { return api.Version{At: at(p), By: one, Val: val} }
func dead(p uint64) api.Version             { return api.Version{At: at(p), By: one, Dead: true} }

// above tells whether a's stamp is later than b's.
func above(a, b api.Ts) bool { return a.P > b.P || a.P == b.P && a.L > b.L }

// teller is what the store and the plain one answer.
type teller interface {
	Put(key string, v api.Version) api.Errno
	Get(key string, t api.Ts) (string, bool)
	Newest(key string) api.Ts
	Count(key string) int
	Scan(from, to string, t api.Ts, limit int) []api.Pair
	Prune(safe api.Ts) int
	Items() []api.Item
}

// plain is the document's words a second time, without chains and trees: keys and versions as they were put.
type plain struct {
	had []had
}

type had struct {
	key string
	v   api.Version
}

func (p *plain) Put(key string, v api.Version) api.Errno {
	if len(key) == 0 || len(key) > maxKey {
		return api.ErrArg
	}
	if v.At.P > maxPhys || v.At.L > maxLogic || len(v.Val) > maxVal || v.Dead && len(v.Val) > 0 {
		return api.ErrArg
	}
	for _, h := range p.had {
		if h.key == key && h.v.At == v.At {
			if h.v == v {
				return api.OK
			}
			return api.ErrBusy
		}
	}
	if p.Count(key) == maxChain {
		return api.ErrMore
	}
	p.had = append(p.had, had{key, v})
	return api.OK
}

// seen answers the latest version of key that isn't above t.
func (p *plain) seen(key string, t api.Ts) (api.Version, bool) {
	var last api.Version
	ok := false
	for _, h := range p.had {
		if h.key == key && !above(h.v.At, t) && (!ok || above(h.v.At, last.At)) {
			last, ok = h.v, true
		}
	}
	return last, ok
}

func (p *plain) Get(key string, t api.Ts) (string, bool) {
	v, ok := p.seen(key, t)
	return v.Val, ok && !v.Dead
}

func (p *plain) Newest(key string) api.Ts {
	v, _ := p.seen(key, beyond)
	return v.At
}

func (p *plain) Count(key string) int {
	n := 0
	for _, h := range p.had {
		if h.key == key {
			n++
		}
	}
	return n
}

// keys answers the keys that have versions, in order.
func (p *plain) keys() []string {
	var all []string
	for _, h := range p.had {
		if !slices.Contains(all, h.key) {
			all = append(all, h.key)
		}
	}
	sort.Strings(all)
	return all
}

func (p *plain) Scan(from, to string, t api.Ts, limit int) []api.Pair {
	var all []api.Pair
	for _, k := range p.keys() {
		if val, ok := p.Get(k, t); ok && k >= from && (to == "" || k < to) {
			all = append(all, api.Pair{Key: k, Val: val})
		}
	}
	return all[:max(0, min(limit, maxScan, len(all)))]
}

func (p *plain) Prune(safe api.Ts) int {
	var kept []had
	for _, h := range p.had {
		last, _ := p.seen(h.key, safe)
		if above(h.v.At, safe) || h.v == last && !h.v.Dead {
			kept = append(kept, h)
		}
	}
	gone := len(p.had) - len(kept)
	p.had = kept
	return gone
}

func (p *plain) Items() []api.Item {
	var all []api.Item
	for _, k := range p.keys() {
		var c list
		for _, h := range p.had {
			if h.key == k {
				c = append(c, h.v)
			}
		}
		sort.Slice(c, func(i, j int) bool { return above(c[i].At, c[j].At) })
		all = append(all, api.Item{Key: k, Chain: c})
	}
	return all
}

// sameItems tells whether a and b are the same keys with the same chains.
func sameItems(a, b []api.Item) bool {
	return slices.EqualFunc(a, b, func(x, y api.Item) bool { return x.Key == y.Key && slices.Equal(x.Chain, y.Chain) })
}

// copied answers items in new memory.
func copied(items []api.Item) []api.Item {
	var all []api.Item
	for _, x := range items {
		all = append(all, api.Item{Key: x.Key, Chain: slices.Clone(x.Chain)})
	}
	return all
}

// alike holds what s tells of keys, ends, stamps and limits against what p tells.
func alike(t *testing.T, s, p teller, keys, ends []string, stamps []api.Ts, limits []int) {
	t.Helper()
	if got, want := s.Items(), p.Items(); !sameItems(got, want) {
		t.Fatalf("Items: %#v, want %#v", got, want)
	}
	for _, k := range keys {
		if got, want := s.Newest(k), p.Newest(k); got != want {
			t.Fatalf("Newest(%q): %v, want %v", k, got, want)
		}
		if got, want := s.Count(k), p.Count(k); got != want {
			t.Fatalf("Count(%q): %d, want %d", k, got, want)
		}
		for _, u := range stamps {
			val, ok := s.Get(k, u)
			want, seen := p.Get(k, u)
			if val != want || ok != seen {
				t.Fatalf("Get(%q, %v): %q %t, want %q %t", k, u, val, ok, want, seen)
			}
		}
	}
	for _, from := range ends {
		for _, to := range ends {
			for _, u := range stamps {
				for _, limit := range limits {
					got, want := s.Scan(from, to, u, limit), p.Scan(from, to, u, limit)
					if !slices.Equal(got, want) {
						t.Fatalf("Scan(%q, %q, %v, %d): %q, want %q", from, to, u, limit, got, want)
					}
				}
			}
		}
	}
}

// put puts v to key in s, which must take it.
func put(t *testing.T, s teller, key string, v api.Version) {
	t.Helper()
	if err := s.Put(key, v); err != api.OK {
		t.Fatalf("Put(%q, %v): %d", key, v, err)
	}
}

// of answers a store with the versions of items.
func of(t *testing.T, items ...api.Item) *store.Store {
	t.Helper()
	s := store.New()
	for _, x := range items {
		for _, v := range x.Chain {
			put(t, s, x.Key, v)
		}
	}
	return s
}

// values answers a store whose keys have their own texts as values, since 5.
func values(t *testing.T, keys ...string) *store.Store {
	t.Helper()
	s := store.New()
	for _, k := range keys {
		put(t, s, k, live(5, k))
	}
	return s
}

// told answers the keys of pairs, and fails where a value isn't the key.
func told(t *testing.T, pairs []api.Pair) []string {
	t.Helper()
	var keys []string
	for _, x := range pairs {
		if x.Key != x.Val {
			t.Errorf("%q with %q", x.Key, x.Val)
		}
		keys = append(keys, x.Key)
	}
	return keys
}

// wrong answers versions that no chain has.
func wrong() list {
	return list{
		{At: api.Ts{P: maxPhys + 1}, By: one, Val: "x"},
		{At: beyond},
		{At: api.Ts{P: 5, L: maxLogic + 1}, By: one, Val: "x"},
		{At: api.Ts{L: math.MaxUint32}},
		{At: at(5), By: one, Val: strings.Repeat("v", maxVal+1)},
		{At: at(4), By: one, Val: strings.Repeat("v", 70000)},
		{At: at(5), By: one, Val: "x", Dead: true},
		{At: at(4), By: one, Val: "\x00", Dead: true},
		{At: at(4), By: one, Val: strings.Repeat("v", maxVal+1), Dead: true},
	}
}

// noKeys answers texts that are no keys.
func noKeys() []string {
	return []string{"", strings.Repeat("k", maxKey+1), strings.Repeat("\x00", maxKey+1), strings.Repeat("k", 70000)}
}
