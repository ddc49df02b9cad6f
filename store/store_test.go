package store_test

import (
	"math"
	"math/rand"
	"slices"
	"strconv"
	"strings"
	"testing"

	"dovecote/api"
	"dovecote/store"
)

// P9.1: each call answers as the chapter says, in any order.

func TestExamples(t *testing.T) {
	s := store.New()
	put(t, s, "a", live(5, "x"))
	put(t, s, "b", live(6, "y"))
	if l := s.Scan("", "", at(5), 9); !slices.Equal(l, []api.Pair{{Key: "a", Val: "x"}}) {
		t.Error("Scan at 5:", l)
	}
	if l := s.Scan("", "", at(6), 9); !slices.Equal(l, []api.Pair{{Key: "a", Val: "x"}, {Key: "b", Val: "y"}}) {
		t.Error("Scan at 6:", l)
	}
	if val, ok := s.Get("b", at(5)); val != "" || ok {
		t.Error("Get of b at 5:", val, ok)
	}
	put(t, s, "a", dead(7))
	if l := s.Scan("", "", at(7), 9); !slices.Equal(l, []api.Pair{{Key: "b", Val: "y"}}) {
		t.Error("Scan at 7:", l)
	}
}

// nothing asks for what a store without versions must answer.
func nothing(t *testing.T, s *store.Store) {
	t.Helper()
	texts := append(noKeys(), "a", "\x00", "\xff", strings.Repeat("k", maxKey))
	for _, u := range []api.Ts{{}, at(5), greatest, beyond} {
		for _, k := range texts {
			if val, ok := s.Get(k, u); val != "" || ok {
				t.Errorf("Get: %q %t", val, ok)
			}
			if s.Newest(k) != (api.Ts{}) || s.Count(k) != 0 {
				t.Errorf("Newest: %v, Count: %d", s.Newest(k), s.Count(k))
			}
			for _, limit := range []int{math.MinInt, -1, 0, 1, maxScan, math.MaxInt} {
				if l := slices.Concat(s.Scan(k, "", u, limit), s.Scan("", k, u, limit), s.Scan(k, k, u, limit)); len(l) != 0 {
					t.Errorf("Scan: %v", l)
				}
			}
		}
		if n := s.Prune(u); n != 0 {
			t.Errorf("Prune: %d", n)
		}
		if l := s.Items(); len(l) != 0 {
			t.Errorf("Items: %v", l)
		}
	}
}

func TestNilStore(t *testing.T) {
	var s *store.Store
	nothing(t, s)
	for _, k := range append(noKeys(), "a", strings.Repeat("k", maxKey)) {
		for _, v := range append(wrong(), live(5, "x"), dead(5), api.Version{}) {
			if err := s.Put(k, v); err != api.ErrArg {
				t.Errorf("Put(%q, %v): %d", k, v, err)
			}
		}
	}
	nothing(t, s)
}

func TestEmptyStore(t *testing.T) {
	if store.New() == nil {
		t.Fatal("New answers nil")
	}
	nothing(t, store.New())
	refused := store.New()
	for _, v := range wrong() {
		refused.Put("a", v)
	}
	nothing(t, refused)
	pruned := of(t, api.Item{Key: "a", Chain: list{live(3, "x"), dead(5)}}, api.Item{Key: "b", Chain: list{dead(4)}})
	if n := pruned.Prune(at(5)); n != 3 {
		t.Errorf("Prune: %d", n)
	}
	nothing(t, pruned)
}

func TestStoresApart(t *testing.T) {
	a, b := values(t, "x"), values(t, "x", "y")
	put(t, a, "x", live(7, "more"))
	put(t, b, "x", dead(6))
	b.Prune(at(6))
	if val, ok := a.Get("x", at(6)); val != "x" || !ok || a.Count("x") != 2 || a.Count("y") != 0 || b.Count("x") != 0 || b.Count("y") != 1 {
		t.Error("one store shows in another:", a.Items(), b.Items())
	}
}

func TestKeys(t *testing.T) {
	long := strings.Repeat("k", maxKey)
	keys := []string{
		"\x00", "\x00\x00", "\x00\xff", strings.Repeat("\x00", maxKey), "A", "a", "a\x00", "aa", "ab", "b",
		long[:maxKey-1], long, "\x7f", "\x80", "\xc3\x28", "é", "\xf0\x9f\x90\xa6", "\xff", "\xff\x00", strings.Repeat("\xff", maxKey-1), strings.Repeat("\xff", maxKey),
	}
	s, p := store.New(), &plain{}
	for i, k := range keys {
		v := live(uint64(i), k)
		if s.Put(k, v) != api.OK || p.Put(k, v) != api.OK {
			t.Errorf("Put(%q)", k)
		}
		if val, ok := s.Get(k, at(uint64(i))); val != k || !ok || s.Count(k) != 1 || s.Newest(k) != v.At {
			t.Errorf("Get(%q): %q %t", k, val, ok)
		}
	}
	before := s.Items()
	for _, k := range noKeys() {
		for _, v := range append(wrong(), live(5, "x"), dead(5), api.Version{}) {
			if err := s.Put(k, v); err != api.ErrArg {
				t.Errorf("Put to %d bytes: %d", len(k), err)
			}
		}
	}
	if !sameItems(s.Items(), before) || len(before) != len(keys) {
		t.Error("Items:", s.Items())
	}
	ends := slices.Concat(keys, noKeys(), []string{long + "\x00", "aa\x00", "c", "\xfe"})
	alike(t, s, p, ends, ends, []api.Ts{at(9), at(100)}, []int{9, 100})
}

// TestPut: each of what chain answers, and what is kept then.
func TestPut(t *testing.T) {
	long := strings.Repeat("v", maxVal)
	s := store.New()
	var c list
	for i, x := range []struct {
		v    api.Version
		err  api.Errno
		want []int // the places in the table of what the key has then
	}{
		{live(5, "f"), api.OK, []int{0}},
		{live(9, long), api.OK, []int{1, 0}},
		{dead(7), api.OK, []int{1, 2, 0}},
		{live(3, ""), api.OK, []int{1, 2, 0, 3}},
		{api.Version{}, api.OK, []int{1, 2, 0, 3, 4}},
		{api.Version{At: greatest, By: two, Val: "\x00\xff"}, api.OK, []int{5, 1, 2, 0, 3, 4}},
		{api.Version{At: api.Ts{P: 7, L: 1}, By: two}, api.OK, []int{5, 1, 6, 2, 0, 3, 4}},
		// What it has.
		{live(5, "f"), api.OK, []int{5, 1, 6, 2, 0, 3, 4}},
		{dead(7), api.OK, []int{5, 1, 6, 2, 0, 3, 4}},
		{api.Version{}, api.OK, []int{5, 1, 6, 2, 0, 3, 4}},
		// Another one at its stamp.
		{live(5, "g"), api.ErrBusy, []int{5, 1, 6, 2, 0, 3, 4}},
		{dead(5), api.ErrBusy, []int{5, 1, 6, 2, 0, 3, 4}},
		{live(7, ""), api.ErrBusy, []int{5, 1, 6, 2, 0, 3, 4}},
		{api.Version{At: at(5), By: two, Val: "f"}, api.ErrBusy, []int{5, 1, 6, 2, 0, 3, 4}},
		{api.Version{At: greatest, By: two}, api.ErrBusy, []int{5, 1, 6, 2, 0, 3, 4}},
		// What can't be in a chain, also at a stamp that it has.
		{api.Version{At: at(5), By: one, Val: "f", Dead: true}, api.ErrArg, []int{5, 1, 6, 2, 0, 3, 4}},
		{live(4, long+"v"), api.ErrArg, []int{5, 1, 6, 2, 0, 3, 4}},
		{live(maxPhys+1, "x"), api.ErrArg, []int{5, 1, 6, 2, 0, 3, 4}},
		{api.Version{At: api.Ts{P: 4, L: maxLogic + 1}}, api.ErrArg, []int{5, 1, 6, 2, 0, 3, 4}},
	} {
		c = append(c, x.v)
		if err := s.Put("k", x.v); err != x.err {
			t.Errorf("%d: Put(%v): %d, want %d", i, x.v, err, x.err)
		}
		var want list
		for _, place := range x.want {
			want = append(want, c[place])
		}
		if !sameItems(s.Items(), []api.Item{{Key: "k", Chain: want}}) || s.Count("k") != len(want) || s.Newest("k") != want[0].At {
			t.Errorf("%d: Items behind Put(%v): %v, want %v", i, x.v, s.Items(), want)
		}
	}
}

func TestPutRefused(t *testing.T) {
	s, p := store.New(), &plain{}
	for _, x := range (list{live(5, "x"), live(3, "y"), dead(8)}) {
		for _, k := range []string{"a", "c"} {
			put(t, s, k, x)
			put(t, p, k, x)
		}
	}
	stamps := []api.Ts{at(2), at(3), at(4), at(5), at(8), greatest}
	for _, k := range []string{"a", "b", "c", "aa"} {
		for i, v := range wrong() {
			if err := s.Put(k, v); err != api.ErrArg {
				t.Errorf("%d: Put(%q): %d", i, k, err)
			}
			alike(t, s, p, []string{"a", "b", "c", "aa"}, []string{"", "b"}, stamps, []int{1, 9})
		}
	}
	for _, v := range (list{live(5, "z"), dead(5), live(8, ""), {At: at(3), By: two, Val: "y"}}) {
		if err := s.Put("a", v); err != api.ErrBusy {
			t.Errorf("Put(%v): %d", v, err)
		}
		alike(t, s, p, []string{"a", "b", "c", "aa"}, []string{"", "b"}, stamps, []int{1, 9})
	}
}

func TestPutFull(t *testing.T) {
	s := store.New()
	var full list
	for i := uint64(1); i <= maxChain; i++ {
		put(t, s, "k", live(2*i, "v"))
		full = append(list{live(2*i, "v")}, full...)
	}
	want := []api.Item{{Key: "k", Chain: full}}
	for _, x := range []struct {
		v   api.Version
		err api.Errno
	}{
		{live(2001, "v"), api.ErrMore}, {live(1, "v"), api.ErrMore}, {dead(999), api.ErrMore}, {api.Version{}, api.ErrMore}, {api.Version{At: greatest}, api.ErrMore},
		{live(2000, "w"), api.ErrBusy}, {dead(1000), api.ErrBusy}, {api.Version{At: at(2), Val: "v"}, api.ErrBusy},
		{api.Version{At: at(1), Val: "v", Dead: true}, api.ErrArg}, {live(maxPhys+1, "v"), api.ErrArg},
		{live(2000, "v"), api.OK}, {live(1000, "v"), api.OK}, {live(2, "v"), api.OK},
	} {
		if err := s.Put("k", x.v); err != x.err {
			t.Errorf("Put(%v) to a full chain: %d, want %d", x.v, err, x.err)
		}
		if !sameItems(s.Items(), want) || s.Count("k") != maxChain {
			t.Fatalf("Put(%v) to a full chain changed it", x.v)
		}
	}
	// Another key has room, and so has this one when it is pruned.
	put(t, s, "kk", live(1, "v"))
	if n := s.Prune(at(3)); n != 0 || s.Put("k", live(3, "v")) != api.ErrMore {
		t.Errorf("Prune at 3: %d", n)
	}
	if n := s.Prune(at(5)); n != 1 || s.Put("k", live(3, "v")) != api.OK || s.Put("k", live(5, "v")) != api.ErrMore {
		t.Errorf("Prune at 5: %d, Count %d", n, s.Count("k"))
	}
}

func TestGet(t *testing.T) {
	s := of(t,
		api.Item{Key: "k", Chain: list{live(3, "y"), dead(5), live(7, ""), live(9, "x")}},
		api.Item{Key: "dead", Chain: list{dead(4)}},
		api.Item{Key: "z", Chain: list{{Val: "zero"}}})
	for _, x := range []struct {
		key string
		t   api.Ts
		val string
		ok  bool
	}{
		{"k", api.Ts{}, "", false},
		{"k", at(2), "", false},
		{"k", api.Ts{P: 2, L: maxLogic}, "", false},
		{"k", at(3), "y", true},
		{"k", api.Ts{P: 3, L: 1}, "y", true},
		{"k", api.Ts{P: 4, L: maxLogic}, "y", true},
		{"k", at(5), "", false},
		{"k", at(6), "", false},
		{"k", at(7), "", true},
		{"k", at(8), "", true},
		{"k", at(9), "x", true},
		{"k", at(10), "x", true},
		{"k", greatest, "x", true},
		{"dead", at(3), "", false},
		{"dead", at(4), "", false},
		{"dead", greatest, "", false},
		{"z", api.Ts{}, "zero", true},
		{"z", at(9), "zero", true},
		// A stamp that isn't right: as the order of stamps has it.
		{"k", beyond, "x", true},
		{"k", api.Ts{P: 4, L: maxLogic + 1}, "y", true},
		{"k", api.Ts{P: 2, L: math.MaxUint32}, "", false},
		// Keys that have nothing, and what is no key.
		{"a", greatest, "", false},
		{"kk", greatest, "", false},
		{"K", greatest, "", false},
		{"k\x00", greatest, "", false},
		{"", greatest, "", false},
		{strings.Repeat("k", maxKey+1), greatest, "", false},
	} {
		if val, ok := s.Get(x.key, x.t); val != x.val || ok != x.ok {
			t.Errorf("Get(%q, %v): %q %t, want %q %t", x.key, x.t, val, ok, x.val, x.ok)
		}
	}
}

func TestNewestAndCount(t *testing.T) {
	s := of(t,
		api.Item{Key: "k", Chain: list{live(9, "x"), dead(5), live(3, "y")}},
		api.Item{Key: "dead", Chain: list{live(3, "y"), dead(4)}},
		api.Item{Key: "z", Chain: list{{}}},
		api.Item{Key: "l", Chain: list{{At: api.Ts{P: 5, L: 7}}, {At: api.Ts{P: 5, L: 8}}, {At: at(5)}}},
		api.Item{Key: "top", Chain: list{live(1, ""), {At: greatest, Dead: true}}})
	for _, x := range []struct {
		key    string
		newest api.Ts
		count  int
	}{
		{"k", at(9), 3},
		{"dead", at(4), 2},
		{"z", api.Ts{}, 1},
		{"l", api.Ts{P: 5, L: 8}, 3},
		{"top", greatest, 2},
		{"none", api.Ts{}, 0},
		{"kk", api.Ts{}, 0},
		{"", api.Ts{}, 0},
		{strings.Repeat("k", maxKey+1), api.Ts{}, 0},
	} {
		if s.Newest(x.key) != x.newest || s.Count(x.key) != x.count {
			t.Errorf("of %q: Newest %v, Count %d, want %v, %d", x.key, s.Newest(x.key), s.Count(x.key), x.newest, x.count)
		}
	}
}

func TestScan(t *testing.T) {
	// c, e and g can't be seen at 5: dead, only later, and dead since just then.
	s := values(t, "b", "d", "f", "g", "h")
	put(t, s, "c", dead(4))
	put(t, s, "e", live(6, "e"))
	put(t, s, "g", api.Version{At: api.Ts{P: 5, L: 1}, Dead: true})
	five := api.Ts{P: 5, L: 1}
	for _, x := range []struct {
		from, to string
		limit    int
		want     string
	}{
		{"", "", 9, "b d f h"},
		// A from that is a key, that is none, and one that isn't seen.
		{"b", "", 9, "b d f h"},
		{"a", "", 9, "b d f h"},
		{"b\x00", "", 9, "d f h"},
		{"c", "", 9, "d f h"},
		{"d", "", 9, "d f h"},
		{"e", "", 9, "f h"},
		{"h", "", 9, "h"},
		{"h\x00", "", 9, ""},
		{"z", "", 9, ""},
		// A to that is a key, that is none, and one that isn't seen.
		{"", "b", 9, ""},
		{"", "b\x00", 9, "b"},
		{"", "d", 9, "b"},
		{"", "e", 9, "b d"},
		{"", "f", 9, "b d"},
		{"", "g", 9, "b d f"},
		{"", "h", 9, "b d f"},
		{"", "h\x00", 9, "b d f h"},
		{"", "z", 9, "b d f h"},
		{"", "a", 9, ""},
		// Both.
		{"d", "h", 9, "d f"},
		{"c", "e", 9, "d"},
		{"e", "f", 9, ""},
		{"c", "d", 9, ""},
		// A from that isn't ahead of to.
		{"d", "d", 9, ""},
		{"c", "c", 9, ""},
		{"f", "d", 9, ""},
		{"z", "a", 9, ""},
		// Limits: what isn't seen isn't counted.
		{"", "", math.MinInt, ""},
		{"", "", -1, ""},
		{"", "", 0, ""},
		{"", "", 1, "b"},
		{"", "", 2, "b d"},
		{"", "", 3, "b d f"},
		{"", "", 4, "b d f h"},
		{"", "", 5, "b d f h"},
		{"", "", math.MaxInt, "b d f h"},
		{"c", "", 1, "d"},
		{"g", "", 1, "h"},
		{"c", "g", 1, "d"},
		{"c", "g", 2, "d f"},
		{"c", "g", 3, "d f"},
		{"c", "g", 0, ""},
		// Ends that are no keys.
		{strings.Repeat("b", 70000), "", 9, "d f h"},
		{"", strings.Repeat("f", 70000), 9, "b d f"},
	} {
		if got := told(t, s.Scan(x.from, x.to, five, x.limit)); !slices.Equal(got, strings.Fields(x.want)) {
			t.Errorf("Scan(%.9q, %.9q, %d): %q, want %s", x.from, x.to, x.limit, got, x.want)
		}
	}
	for _, x := range []struct {
		t    api.Ts
		want string
	}{
		{api.Ts{}, ""}, {at(4), ""}, {api.Ts{P: 4, L: math.MaxUint32}, ""}, {at(5), "b d f g h"}, {five, "b d f h"},
		{at(6), "b d e f h"}, {greatest, "b d e f h"}, {beyond, "b d e f h"},
	} {
		if got := told(t, s.Scan("", "", x.t, 9)); !slices.Equal(got, strings.Fields(x.want)) {
			t.Errorf("Scan at %v: %q, want %s", x.t, got, x.want)
		}
	}
}

// TestScanValues: of several versions the one that is seen, an empty value too.
func TestScanValues(t *testing.T) {
	s := of(t,
		api.Item{Key: "a", Chain: list{live(3, "old"), live(5, ""), live(7, "new")}},
		api.Item{Key: "b", Chain: list{live(4, "\x00\xff"), dead(6), live(8, strings.Repeat("v", maxVal))}})
	for _, x := range []struct {
		p    uint64
		want []api.Pair
	}{
		{2, nil},
		{3, []api.Pair{{Key: "a", Val: "old"}}},
		{4, []api.Pair{{Key: "a", Val: "old"}, {Key: "b", Val: "\x00\xff"}}},
		{5, []api.Pair{{Key: "a", Val: ""}, {Key: "b", Val: "\x00\xff"}}},
		{6, []api.Pair{{Key: "a", Val: ""}}},
		{7, []api.Pair{{Key: "a", Val: "new"}}},
		{8, []api.Pair{{Key: "a", Val: "new"}, {Key: "b", Val: strings.Repeat("v", maxVal)}}},
	} {
		if got := s.Scan("", "", at(x.p), 9); !slices.Equal(got, x.want) {
			t.Errorf("Scan at %d: %q, want %q", x.p, got, x.want)
		}
	}
}

// wide answers a key of two bytes.
func wide(i int) string { return string([]byte{byte(i >> 8), byte(i)}) }

func TestScanLimit(t *testing.T) {
	for _, n := range []int{0, 1, 31, 32, 33, 64, 65, 200} {
		var keys []string
		for i := range n {
			keys = append(keys, wide(i))
		}
		s := values(t, keys...)
		for _, limit := range []int{math.MinInt, -33, -1, 0, 1, 2, 31, 32, 33, 64, 1000, math.MaxInt} {
			want := keys[:max(0, min(limit, maxScan, n))]
			if got := told(t, s.Scan("", "", at(5), limit)); !slices.Equal(got, want) {
				t.Errorf("%d keys, limit %d: %q", n, limit, got)
			}
			if n > 40 {
				if got := told(t, s.Scan(wide(20), wide(30), at(5), limit)); !slices.Equal(got, keys[20:30][:max(0, min(limit, 10))]) {
					t.Errorf("%d keys, 10 of them, limit %d: %q", n, limit, got)
				}
			}
		}
	}
}

// TestScanPassesOver: many keys that aren't seen stand ahead of, between and behind those that are.
func TestScanPassesOver(t *testing.T) {
	for _, gap := range []int{0, 1, 2, 30, 31, 32, 33, 63, 64, 65, 100} {
		for _, seen := range []int{1, 2, 31, 32, 33, 34} {
			s := store.New()
			var want []string
			for i := range (gap + 1) * seen {
				v := []api.Version{dead(5), live(6, "later")}[i%2]
				if i%(gap+1) == gap {
					v = live(5, wide(i))
					want = append(want, v.Val)
				}
				put(t, s, wide(i), v)
			}
			for i := range 40 {
				put(t, s, "\xff"+wide(i), dead(5))
			}
			for _, limit := range []int{1, 2, seen - 1, seen, seen + 1, 100} {
				got := told(t, s.Scan("", "", at(5), limit))
				if !slices.Equal(got, want[:min(limit, maxScan, seen)]) {
					t.Fatalf("gap %d, limit %d: %q, want %q", gap, limit, got, want)
				}
			}
			last := want[len(want)-1]
			if got := told(t, s.Scan("", last, at(5), 100)); !slices.Equal(got, want[:min(maxScan, seen-1)]) {
				t.Fatalf("gap %d, ahead of %q: %q", gap, last, got)
			}
			if got := told(t, s.Scan(last, "", at(5), 100)); !slices.Equal(got, []string{last}) {
				t.Fatalf("gap %d, from %q: %q", gap, last, got)
			}
		}
	}
}

// TestScanOfNeighbours: no text stands between one key and the next, so that none can be stepped over.
func TestScanOfNeighbours(t *testing.T) {
	s := store.New()
	var keys []string
	for n := 1; n <= maxKey; n++ {
		keys = append(keys, strings.Repeat("\x00", n))
	}
	for n := 1; n < maxKey; n++ {
		keys = append(keys, "b"+strings.Repeat("\x00", n))
	}
	keys = append(keys, strings.Repeat("\xff", maxKey-1), strings.Repeat("\xff", maxKey-1)+"\x00", strings.Repeat("\xff", maxKey))
	for _, k := range keys {
		put(t, s, k, live(7, k))
		put(t, s, k, dead(6))
	}
	for i, k := range keys {
		// All of them are passed over at 6; at 8 those ahead of k are.
		if got := s.Scan("", "", at(6), 100); len(got) != 0 {
			t.Fatalf("Scan at 6: %q", got)
		}
		if got := told(t, s.Scan("", "", at(8), 100)); !slices.Equal(got, keys[i:min(len(keys), i+maxScan)]) {
			t.Fatalf("Scan with those ahead of %q dead: %q", k, got)
		}
		put(t, s, k, dead(8))
	}
}

func TestPrune(t *testing.T) {
	x, d, y, e := live(9, "x"), dead(7), live(5, "y"), dead(3)
	from := []api.Item{{Key: "a", Chain: list{x, d, y, e}}, {Key: "b", Chain: list{d, y}}, {Key: "c", Chain: list{live(4, "")}}}
	for _, s := range []struct {
		safe api.Ts
		gone int
		want []api.Item
	}{
		// Below all.
		{api.Ts{}, 0, from},
		{at(2), 0, from},
		{api.Ts{P: 2, L: math.MaxUint32}, 0, from},
		// Between.
		{at(3), 1, []api.Item{{Key: "a", Chain: list{x, d, y}}, from[1], from[2]}},
		{at(4), 1, []api.Item{{Key: "a", Chain: list{x, d, y}}, from[1], from[2]}},
		{at(5), 1, []api.Item{{Key: "a", Chain: list{x, d, y}}, from[1], from[2]}},
		{api.Ts{P: 6, L: maxLogic}, 1, []api.Item{{Key: "a", Chain: list{x, d, y}}, from[1], from[2]}},
		{at(7), 5, []api.Item{{Key: "a", Chain: list{x}}, from[2]}},
		{at(8), 5, []api.Item{{Key: "a", Chain: list{x}}, from[2]}},
		// At the last, and above all.
		{at(9), 5, []api.Item{{Key: "a", Chain: list{x}}, from[2]}},
		{at(10), 5, []api.Item{{Key: "a", Chain: list{x}}, from[2]}},
		{greatest, 5, []api.Item{{Key: "a", Chain: list{x}}, from[2]}},
		{beyond, 5, []api.Item{{Key: "a", Chain: list{x}}, from[2]}},
	} {
		pruned := of(t, from...)
		if n := pruned.Prune(s.safe); n != s.gone || !sameItems(pruned.Items(), s.want) {
			t.Errorf("Prune(%v): %d, %v", s.safe, n, pruned.Items())
		}
		if n := pruned.Prune(s.safe); n != 0 || !sameItems(pruned.Items(), s.want) {
			t.Errorf("second Prune(%v): %d, %v", s.safe, n, pruned.Items())
		}
		if n := pruned.Prune(at(1)); n != 0 || !sameItems(pruned.Items(), s.want) {
			t.Errorf("Prune(1) behind Prune(%v): %d, %v", s.safe, n, pruned.Items())
		}
	}
}

func TestPruneAll(t *testing.T) {
	s := of(t, api.Item{Key: "a", Chain: list{live(3, "x"), dead(5)}}, api.Item{Key: "b", Chain: list{live(3, "x"), live(5, "y")}}, api.Item{Key: "c", Chain: list{dead(5)}})
	if n := s.Prune(at(5)); n != 4 || s.Count("a") != 0 || s.Newest("a") != (api.Ts{}) || s.Count("b") != 1 || s.Count("c") != 0 {
		t.Errorf("Prune(5): %d, %v", n, s.Items())
	}
	// A key that has gone is there again when it is put, as if it had never been.
	put(t, s, "a", live(3, "other"))
	put(t, s, "c", live(5, "alive"))
	want := []api.Item{{Key: "a", Chain: list{live(3, "other")}}, {Key: "b", Chain: list{live(5, "y")}}, {Key: "c", Chain: list{live(5, "alive")}}}
	if !sameItems(s.Items(), want) {
		t.Errorf("Items: %v", s.Items())
	}
	if got := s.Scan("", "", at(4), 9); !slices.Equal(got, []api.Pair{{Key: "a", Val: "other"}}) {
		t.Errorf("Scan: %v", got)
	}
	for _, x := range []struct {
		safe uint64
		gone int
	}{{5, 0}, {6, 2}, {7, 1}, {7, 1}} {
		put(t, s, "b", dead(6))
		if n := s.Prune(at(x.safe)); n != x.gone {
			t.Errorf("Prune(%d): %d", x.safe, n)
		}
	}
}

func TestPruneMany(t *testing.T) {
	s := store.New()
	var want []api.Item
	gone := 0
	for i := range 3000 {
		k := wide(i * 7919 % 3000)
		put(t, s, k, live(5, k))
		switch {
		case k[1]%3 == 0:
			put(t, s, k, dead(6))
			gone += 2
		case k[1]%3 == 1:
			put(t, s, k, live(6, ""))
			gone++
		}
	}
	for i := range 3000 {
		switch k := wide(i); k[1] % 3 {
		case 1:
			want = append(want, api.Item{Key: k, Chain: list{live(6, "")}})
		case 2:
			want = append(want, api.Item{Key: k, Chain: list{live(5, k)}})
		}
	}
	if n := s.Prune(at(6)); n != gone || !sameItems(s.Items(), want) {
		t.Errorf("Prune: %d, want %d", n, gone)
	}
}

func TestItems(t *testing.T) {
	s := store.New()
	keys := []string{"m", "\xff", "a\x00", "\x00", "a", "z", "aa", "B"}
	for i, k := range keys {
		put(t, s, k, live(uint64(i+1), k))
		put(t, s, k, dead(uint64(i+20)))
		put(t, s, k, live(uint64(i+10), ""))
		items := s.Items()
		if len(items) != i+1 {
			t.Fatalf("%d items of %d keys", len(items), i+1)
		}
		for j, x := range items {
			place := uint64(slices.Index(keys, x.Key))
			if j > 0 && items[j-1].Key >= x.Key || !slices.Equal(x.Chain, list{dead(place + 20), live(place+10, ""), live(place+1, x.Key)}) {
				t.Errorf("Items: %v", items)
			}
		}
	}
}

// TestMemory: what is done with a list that was answered changes nothing in the store, and what is done in the store changes no such list.
func TestMemory(t *testing.T) {
	s := of(t, api.Item{Key: "a", Chain: list{live(3, "x"), live(5, "y"), live(7, "z")}}, api.Item{Key: "b", Chain: list{live(3, "x"), dead(9)}}, api.Item{Key: "c", Chain: list{live(4, "w")}})
	want := copied(s.Items())
	pairs := slices.Clone(s.Scan("", "", at(5), 9))
	for range 3 {
		for i, x := range s.Items() {
			whole := x.Chain[:cap(x.Chain)]
			for j := range whole {
				whole[j] = live(1, "spoilt")
			}
			if !sameItems(s.Items(), want) {
				t.Fatalf("the chain of item %d is the store's own", i)
			}
		}
		items := s.Items()
		for i := range items[:cap(items)] {
			items[:cap(items)][i] = api.Item{Key: "spoilt"}
		}
		l := s.Scan("", "", at(5), 9)
		for i := range l[:cap(l)] {
			l[:cap(l)][i] = api.Pair{Key: "spoilt"}
		}
		if !sameItems(s.Items(), want) || !slices.Equal(s.Scan("", "", at(5), 9), pairs) {
			t.Fatal("what was done with lists shows in the store:", s.Items())
		}
	}
	items, l := s.Items(), s.Scan("", "", at(5), 9)
	put(t, s, "a", live(1, "first"))
	put(t, s, "a", live(6, "between"))
	put(t, s, "c", dead(5))
	put(t, s, "d", live(5, "new"))
	s.Prune(at(9))
	put(t, s, "b", live(2, "again"))
	if !sameItems(items, want) || !slices.Equal(l, pairs) {
		t.Error("what was done in the store shows in lists:", items, l)
	}
}

// TestMemoryOfItems: no two lists of one answer share memory, nor do those of two answers.
func TestMemoryOfItems(t *testing.T) {
	s := store.New()
	for i := range 20 {
		for j := range i + 1 {
			put(t, s, wide(i), live(uint64(j), "v"))
		}
	}
	items, others := s.Items(), s.Items()
	want := copied(items)
	for i := range items {
		whole := items[i].Chain[:cap(items[i].Chain)]
		for j := range whole {
			whole[j] = live(99, "spoilt")
		}
		if !sameItems(items[i+1:], want[i+1:]) || !sameItems(others, want) {
			t.Fatalf("the chain of item %d is shared", i)
		}
	}
}

// TestMemoryBehindPut: a chain that Put, or Prune, made isn't that of an earlier answer, whatever room it had.
func TestMemoryBehindPut(t *testing.T) {
	s := store.New()
	var items [][]api.Item
	var wants [][]api.Item
	for i := range 60 {
		put(t, s, "k", live(uint64(i*37%61), strconv.Itoa(i)))
		if i%13 == 12 {
			s.Prune(at(uint64(i / 2)))
		}
		items = append(items, s.Items())
		wants = append(wants, copied(s.Items()))
		for j := range items {
			if !sameItems(items[j], wants[j]) {
				t.Fatalf("Put %d shows in what was answered behind Put %d", i, j)
			}
		}
	}
}

// TestAskingChangesNothing: all that is asked may be asked again.
func TestAskingChangesNothing(t *testing.T) {
	s, p := store.New(), &plain{}
	for _, k := range []string{"a", "b", "\x00", "ab"} {
		for _, v := range (list{live(3, k), dead(5), live(7, "")}) {
			put(t, s, k, v)
			put(t, p, k, v)
		}
	}
	for range 3 {
		alike(t, s, p, append(noKeys(), "a", "b", "c", "ab"), []string{"", "a", "b", "zz"}, []api.Ts{{}, at(3), at(6), at(7), beyond}, []int{-1, 0, 1, 2, 40})
	}
}

// TestEveryCall makes all sequences of up to four out of some puts and prunes.
func TestEveryCall(t *testing.T) {
	type call struct {
		key  string // of none: Prune
		v    api.Version
		safe api.Ts
	}
	var calls []call
	for _, k := range []string{"a", "a\x00"} {
		for _, v := range (list{live(2, "x"), dead(2), live(4, "x"), live(4, ""), dead(6)}) {
			calls = append(calls, call{key: k, v: v})
		}
	}
	for _, p := range []uint64{1, 2, 3, 4, 6} {
		calls = append(calls, call{safe: at(p)})
	}
	calls = append(calls, call{key: "a", v: api.Version{At: at(3), Val: "x", Dead: true}})
	keys, ends := []string{"a", "a\x00", "b"}, []string{"", "a", "a\x00", "b"}
	stamps := []api.Ts{at(1), at(2), at(3), at(4), at(5), at(6)}
	for length, all := 0, 1; length <= 4; length, all = length+1, all*len(calls) {
		for n := range all {
			s, p := store.New(), &plain{}
			for i, rest := 0, n; i < length; i, rest = i+1, rest/len(calls) {
				c := calls[rest%len(calls)]
				if c.key == "" {
					if got, want := s.Prune(c.safe), p.Prune(c.safe); got != want {
						t.Fatalf("sequence %d of %d calls: Prune(%v): %d, want %d", n, length, c.safe, got, want)
					}
				} else if got, want := s.Put(c.key, c.v), p.Put(c.key, c.v); got != want {
					t.Fatalf("sequence %d of %d calls: Put(%q, %v): %d, want %d", n, length, c.key, c.v, got, want)
				}
			}
			if length <= 3 {
				alike(t, s, p, keys, ends, stamps, []int{0, 1, 9})
			} else {
				alike(t, s, p, keys, ends[:1], stamps[1:4], []int{9})
			}
		}
	}
}

// chance answers a version at one of few stamps, seldom one that can't be in a chain.
func chance(r *rand.Rand) api.Version {
	v := api.Version{At: some(r), By: api.Txn{N: uint32(r.Intn(2))}}
	switch r.Intn(4) {
	case 0:
		v.Dead = true
	case 1:
		v.Val = strings.Repeat("v", r.Intn(3))
	}
	if r.Intn(30) == 0 {
		v = wrong()[r.Intn(len(wrong()))]
	}
	return v
}

// some answers one of few stamps.
func some(r *rand.Rand) api.Ts { return api.Ts{P: uint64(r.Intn(7)), L: uint32(r.Intn(3))} }

// text answers a text of few letters, some of them the beginnings of others, seldom one that is no key.
func text(r *rand.Rand, letters string, most int) string {
	if r.Intn(60) == 0 {
		return noKeys()[r.Intn(len(noKeys()))]
	}
	b := make([]byte, 1+r.Intn(most))
	for i := range b {
		b[i] = letters[r.Intn(len(letters))]
	}
	return string(b)
}

// TestByChance makes calls of all kinds, on few keys and on many.
func TestByChance(t *testing.T) {
	for seed := range 120 {
		r := rand.New(rand.NewSource(int64(seed)))
		letters := []string{"ab", "\x00\xff", "abcdefgh", "\x00\x01a\x7f\x80\xff"}[seed%4]
		most := 1 + seed%3
		s, p := store.New(), &plain{}
		for i := range 300 {
			k := text(r, letters, most)
			if r.Intn(40) == 0 {
				safe := some(r)
				if got, want := s.Prune(safe), p.Prune(safe); got != want {
					t.Fatalf("seed %d: Prune(%v): %d, want %d", seed, safe, got, want)
				}
			} else {
				v := chance(r)
				if got, want := s.Put(k, v), p.Put(k, v); got != want {
					t.Fatalf("seed %d: Put(%q, %v): %d, want %d", seed, k, v, got, want)
				}
			}
			if i%5 == 0 {
				ends := []string{"", text(r, letters, most), text(r, letters, most+1)}
				alike(t, s, p, []string{k, ends[1]}, ends, []api.Ts{some(r), some(r)}, []int{r.Intn(50) - 2})
			}
		}
	}
}

// P9.2: Scan tells just what Get tells of each key.

// byGet answers what Get tells at u of the keys from from on and ahead of to, in order.
func byGet(s *store.Store, from, to string, u api.Ts) []api.Pair {
	var all []api.Pair
	for _, x := range s.Items() {
		if val, ok := s.Get(x.Key, u); ok && x.Key >= from && (to == "" || x.Key < to) {
			all = append(all, api.Pair{Key: x.Key, Val: val})
		}
	}
	return all
}

// byScans answers what Scan tells at u of those keys, one scan from behind the other's last key on.
func byScans(s *store.Store, from, to string, u api.Ts, limit int) []api.Pair {
	var all []api.Pair
	for {
		l := s.Scan(from, to, u, limit)
		all = append(all, l...)
		if len(l) == 0 {
			return all
		}
		from = l[len(l)-1].Key + "\x00"
	}
}

// crowd answers a store of many keys with versions by chance.
func crowd(r *rand.Rand, letters string) *store.Store {
	s := store.New()
	for range 40 + r.Intn(400) {
		s.Put(text(r, letters, 3), chance(r))
	}
	return s
}

func TestScanTellsWhatGetTells(t *testing.T) {
	for seed := range 100 {
		r := rand.New(rand.NewSource(int64(seed)))
		letters := []string{"\x00\xff", "abcd", "\x00\x01a\x7f\x80\xff"}[seed%3]
		s := crowd(r, letters)
		for i := range 40 {
			if i == 20 {
				s.Prune(some(r))
			}
			from, to, u := text(r, letters, 3), text(r, letters, 3), some(r)
			if i%2 == 0 {
				from, to = "", ""
			}
			want := byGet(s, from, to, u)
			if got := byScans(s, from, to, u, 1+r.Intn(40)); !slices.Equal(got, want) {
				t.Fatalf("seed %d: scans from %q to %q at %v: %q, want %q", seed, from, to, u, got, want)
			}
			limit := r.Intn(40)
			if got := s.Scan(from, to, u, limit); !slices.Equal(got, want[:min(limit, maxScan, len(want))]) {
				t.Fatalf("seed %d: Scan(%q, %q, %v, %d): %q, want of %q", seed, from, to, u, limit, got, want)
			}
		}
	}
}

// P9.2: pruning shows in no Get or Scan at a stamp that isn't below the safe one.

// shown answers all that Get and Scan tell of keys at stamps that aren't below safe.
func shown(s *store.Store, keys []string, safe api.Ts, stamps []api.Ts) [][]api.Pair {
	var all [][]api.Pair
	for _, u := range stamps {
		if above(safe, u) {
			continue
		}
		var gets []api.Pair
		for _, k := range keys {
			val, ok := s.Get(k, u)
			gets = append(gets, api.Pair{Key: strconv.FormatBool(ok), Val: val})
		}
		all = append(all, gets, byScans(s, "", "", u, maxScan))
		for i, k := range keys {
			all = append(all, s.Scan(k, "", u, 1+i%3), s.Scan(keys[len(keys)-1-i], k, u, maxScan))
		}
	}
	return all
}

func sameShown(a, b [][]api.Pair) bool { return slices.EqualFunc(a, b, slices.Equal[[]api.Pair]) }

// stamps answers all that versions by chance may have, and some above and between.
func stamps() []api.Ts {
	all := []api.Ts{greatest, beyond, {P: 3, L: maxLogic}, {P: 3, L: math.MaxUint32}}
	for p := range uint64(8) {
		for l := range uint32(4) {
			all = append(all, api.Ts{P: p, L: l})
		}
	}
	return all
}

func TestPruneDoesNotShow(t *testing.T) {
	gone := 0
	for seed := range 150 {
		r := rand.New(rand.NewSource(int64(seed)))
		letters := []string{"ab", "\x00\xff", "abc"}[seed%3]
		s := crowd(r, letters)
		keys := []string{"", "a", "ba", "\xff\xff\xff", "none"}
		for _, x := range s.Items() {
			keys = append(keys, x.Key)
		}
		for range 3 {
			safe := stamps()[r.Intn(len(stamps()))]
			before := shown(s, keys, safe, stamps())
			gone += s.Prune(safe)
			if !sameShown(shown(s, keys, safe, stamps()), before) {
				t.Fatalf("seed %d: Prune(%v) shows", seed, safe)
			}
		}
	}
	if gone == 0 {
		t.Error("nothing was pruned")
	}
}

// TestPruneAndPut: with versions above the safe stamp alone put behind it, a store that was pruned shows what one shows that wasn't.
func TestPruneAndPut(t *testing.T) {
	for seed := range 100 {
		r := rand.New(rand.NewSource(int64(seed)))
		pruned, whole := store.New(), store.New()
		var safe api.Ts
		for range 300 {
			k, v := text(r, "abc", 2), chance(r)
			if above(v.At, safe) && pruned.Put(k, v) != whole.Put(k, v) {
				t.Fatalf("seed %d: Put(%q, %v) behind Prune(%v)", seed, k, v, safe)
			}
			if next := some(r); r.Intn(30) == 0 && above(next, safe) {
				safe = next
				pruned.Prune(safe)
			}
		}
		keys := []string{"none"}
		for _, x := range whole.Items() {
			keys = append(keys, x.Key)
		}
		if !sameShown(shown(pruned, keys, safe, stamps()), shown(whole, keys, safe, stamps())) {
			t.Fatalf("seed %d: pruning up to %v shows", seed, safe)
		}
	}
}
