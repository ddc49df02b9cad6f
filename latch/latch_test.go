package latch_test

import (
	"math"
	"math/rand"
	"slices"
	"strings"
	"testing"

	"dovecote/api"
	"dovecote/latch"
)

// P10.1: each call answers as the chapter says, in any order.

func TestExamples(t *testing.T) {
	x := latch.New()
	lay(t, x, one, 5, 6, "a", "a", "b")
	if err := x.Lay(two, at(7), at(8), "b", of("b")); err != api.ErrBusy {
		t.Error("Lay of two:", err)
	}
	if i, ok := x.First("", "", at(5), nil); i != (api.Intent{}) || ok {
		t.Error("First at 5:", i, ok)
	}
	if i, ok := x.First("", "", at(6), nil); i != intent(one, 5, 6, "a", "a") || !ok {
		t.Error("First at 6:", i, ok)
	}
	if !x.Raise(one, at(9)) {
		t.Error("Raise")
	}
	if i, ok := x.First("", "", at(8), nil); i != (api.Intent{}) || ok {
		t.Error("First at 8:", i, ok)
	}
	if l := x.Cut(one); !slices.Equal(l, intents{intent(one, 5, 9, "a", "a"), intent(one, 5, 9, "a", "b")}) {
		t.Error("Cut:", l)
	}
}

// nothing asks for what a table without intents must answer.
func nothing(t *testing.T, x *latch.Table) {
	t.Helper()
	texts := append(noKeys(), "a", "k", "\x00", "\xff", wide(0), strings.Repeat("k", maxKey))
	for _, k := range texts {
		if i, ok := x.Of(k); i != (api.Intent{}) || ok {
			t.Errorf("Of: %v %t", i, ok)
		}
		for _, u := range append(wrongStamps(), api.Ts{}, at(5), greatest) {
			for _, but := range [][]api.Txn{nil, {}, {one}, {one, two, {}}} {
				for _, ends := range [][2]string{{k, ""}, {"", k}, {k, k}} {
					if i, ok := x.First(ends[0], ends[1], u, but); i != (api.Intent{}) || ok {
						t.Errorf("First: %v %t", i, ok)
					}
				}
			}
		}
	}
	for _, by := range []api.Txn{{}, one, two, {Client: math.MaxUint32, N: math.MaxUint32}} {
		for _, u := range append(wrongStamps(), api.Ts{}, at(5), greatest) {
			if x.Raise(by, u) {
				t.Errorf("Raise(%v, %v)", by, u)
			}
		}
		if l := slices.Concat(x.By(by), x.Cut(by), x.By(by)); len(l) != 0 {
			t.Errorf("By, Cut: %v", l)
		}
	}
	if l := x.All(); len(l) != 0 {
		t.Errorf("All: %v", l)
	}
}

func TestNilTable(t *testing.T) {
	var x *latch.Table
	nothing(t, x)
	for _, l := range append(rightLists(), wrongLists()...) {
		for _, by := range []api.Txn{{}, one} {
			if err := x.Lay(by, at(5), at(6), "k", l); err != api.ErrArg {
				t.Errorf("Lay(%v): %d", l, err)
			}
		}
		if x.Lay(one, beyond, at(6), "", l) != api.ErrArg || x.Lay(one, at(6), beyond, "k", l) != api.ErrArg {
			t.Errorf("Lay(%v) at stamps that aren't right", l)
		}
	}
	nothing(t, x)
}

func TestEmptyTable(t *testing.T) {
	if latch.New() == nil {
		t.Fatal("New answers nil")
	}
	nothing(t, latch.New())
	refused := latch.New()
	for _, l := range wrongLists() {
		refused.Lay(one, at(5), at(6), "k", l)
		refused.Raise(one, at(9))
	}
	nothing(t, refused)
	for _, l := range rightLists() {
		cut := latch.New()
		if err := cut.Lay(one, at(5), at(6), "k", l); err != api.OK {
			t.Errorf("Lay(%v): %d", l, err)
		}
		cut.Raise(one, at(9))
		if n := len(cut.Cut(one)); n != len(l) {
			t.Errorf("Cut: %d of %d", n, len(l))
		}
		nothing(t, cut)
	}
}

// TestUnmadeTable: what a table answers that New hasn't made isn't said, but no call panics.
func TestUnmadeTable(t *testing.T) {
	x := &latch.Table{}
	for _, l := range append(rightLists(), wrongLists()...) {
		x.Lay(one, at(5), at(6), "k", l)
		x.Of("k")
		x.By(one)
		x.Raise(one, at(9))
		x.First("", "", greatest, nil)
		x.All()
		x.Cut(one)
	}
}

func TestTablesApart(t *testing.T) {
	a, b := full(t), latch.New()
	lay(t, b, one, 1, 2, "a", "a")
	a.Raise(one, at(9))
	if l := b.All(); !slices.Equal(l, intents{intent(one, 1, 2, "a", "a")}) {
		t.Error("one table shows in another:", l)
	}
	b.Cut(one)
	if l := a.All(); told(l) != "a b c d e" {
		t.Error("one table shows in another:", l)
	}
}

func TestRight(t *testing.T) {
	for i, l := range rightLists() {
		if !latch.Right(l) {
			t.Errorf("%d: not right: %.100v", i, l)
		}
	}
	for i, l := range wrongLists() {
		if latch.Right(l) {
			t.Errorf("%d: right: %.100v", i, l)
		}
	}
}

func TestRightBySize(t *testing.T) {
	for n := range 70 {
		if got, want := latch.Right(many(n)), 1 <= n && n <= maxWrites; got != want {
			t.Errorf("%d writes: %t", n, got)
		}
		key := strings.Repeat("k", n)
		if got, want := latch.Right(writes{{Key: key}}), 1 <= n && n <= maxKey; got != want {
			t.Errorf("a key of %d bytes: %t", n, got)
		}
	}
	for n := range 2 * (maxVal + 2) {
		val := strings.Repeat("v", n)
		if got, want := latch.Right(writes{{Key: "k", Val: val}}), n <= maxVal; got != want {
			t.Errorf("a value of %d bytes: %t", n, got)
		}
		if got, want := latch.Right(writes{{Key: "k", Val: val, Dead: true}}), n == 0; got != want {
			t.Errorf("a dead one with a value of %d bytes: %t", n, got)
		}
	}
}

// TestLay: what each right list makes, on an empty table and on one that has others.
func TestLay(t *testing.T) {
	for n, l := range rightLists() {
		for _, x := range []*latch.Table{latch.New(), other(t)} {
			p := &plain{laid: x.All()}
			if got, want := x.Lay(one, at(5), at(6), "prim", l), p.Lay(one, at(5), at(6), "prim", l); got != api.OK || got != want {
				t.Fatalf("%d: Lay: %d", n, got)
			}
			for _, w := range l {
				if i, ok := x.Of(w.Key); !ok || i != (api.Intent{By: one, Start: at(5), Min: at(6), Primary: "prim", Write: w}) {
					t.Errorf("%d: Of(%q): %v %t", n, w.Key, i, ok)
				}
			}
			alike(t, x, p, []string{"k", "a", "o1", wide(3)}, []api.Txn{one, two}, []string{"", "b", "k", "o"}, []api.Ts{at(5), at(6)}, [][]api.Txn{nil, {two}})
		}
	}
}

// other answers a table with intents of another transaction, of keys that none of rightLists' are.
func other(t *testing.T) *latch.Table {
	t.Helper()
	x := latch.New()
	lay(t, x, two, 3, 4, "o1", "o1", "!", "o2")
	return x
}

func TestLayOfWrongLists(t *testing.T) {
	empty, x := latch.New(), full(t)
	for n, l := range wrongLists() {
		for _, by := range []api.Txn{three, {}} {
			if err := empty.Lay(by, at(5), at(6), "k", l); err != api.ErrArg {
				t.Errorf("%d: Lay on an empty table: %d", n, err)
			}
			if err := x.Lay(by, at(5), at(6), "k", l); err != api.ErrArg {
				t.Errorf("%d: Lay: %d", n, err)
			}
			if len(x.By(by)) != 0 || !slices.Equal(x.All(), fullIntents()) {
				t.Fatalf("%d: a refused Lay left %v", n, x.All())
			}
		}
	}
	nothing(t, empty)
}

func TestLayOfStamps(t *testing.T) {
	rights := []api.Ts{{}, {L: 1}, at(5), {P: 5, L: maxLogic}, at(maxPhys), greatest}
	for _, start := range rights {
		// The least stamp may be below the start: the chapter asks for right ones alone.
		for _, least := range rights {
			x := latch.New()
			if err := x.Lay(one, start, least, "k", of("k")); err != api.OK {
				t.Errorf("Lay(%v, %v): %d", start, least, err)
			}
			if i, ok := x.Of("k"); !ok || i.Start != start || i.Min != least {
				t.Errorf("Lay(%v, %v): %v", start, least, i)
			}
		}
	}
	x := full(t)
	for _, bad := range wrongStamps() {
		for _, u := range append(rights, wrongStamps()...) {
			if err := x.Lay(three, bad, u, "k", of("k")); err != api.ErrArg {
				t.Errorf("Lay(%v, %v): %d", bad, u, err)
			}
			if err := x.Lay(three, u, bad, "k", of("k")); err != api.ErrArg {
				t.Errorf("Lay(%v, %v): %d", u, bad, err)
			}
		}
	}
	if !slices.Equal(x.All(), fullIntents()) {
		t.Errorf("refused Lays left %v", x.All())
	}
}

func TestLayOfPrimaries(t *testing.T) {
	// A primary may live on another shard: it need be none of the writes' keys.
	for _, primary := range []string{"a", "b", "c", "elsewhere", "\x00", "\xff", "k\x00", strings.Repeat("k", maxKey-1), strings.Repeat("k", maxKey)} {
		x := latch.New()
		if err := x.Lay(one, at(5), at(6), primary, of("c", "a")); err != api.OK {
			t.Errorf("Lay with primary %q: %d", primary, err)
		}
		if l := x.By(one); !slices.Equal(l, intents{intent(one, 5, 6, primary, "a"), intent(one, 5, 6, primary, "c")}) {
			t.Errorf("Lay with primary %q: %v", primary, l)
		}
		if _, ok := x.Of("elsewhere"); ok {
			t.Error("the primary has an intent, but no write")
		}
	}
	x := full(t)
	for _, primary := range noKeys() {
		if err := x.Lay(three, at(5), at(6), primary, of("k")); err != api.ErrArg {
			t.Errorf("Lay with primary %.40q: %d", primary, err)
		}
	}
	if !slices.Equal(x.All(), fullIntents()) {
		t.Errorf("refused Lays left %v", x.All())
	}
}

func TestLayOfTransactions(t *testing.T) {
	names := []api.Txn{{}, {Client: 1}, {N: 1}, {Client: 1, N: 1}, {Client: math.MaxUint32}, {N: math.MaxUint32}, {Client: math.MaxUint32, N: math.MaxUint32}, {Client: 1, N: 2}, {Client: 2, N: 1}}
	x := latch.New()
	for i, by := range names {
		lay(t, x, by, uint64(i), uint64(i+1), "k", wide(i))
	}
	for i, by := range names {
		if l := x.By(by); !slices.Equal(l, intents{intent(by, uint64(i), uint64(i+1), "k", wide(i))}) {
			t.Errorf("By(%v): %v", by, l)
		}
		if err := x.Lay(by, at(1), at(1), "k", of("free")); err != api.ErrBusy {
			t.Errorf("Lay of %v again: %d", by, err)
		}
	}
	for i, by := range names {
		if l := x.Cut(by); len(l) != 1 || len(x.All()) != len(names)-1-i {
			t.Errorf("Cut(%v): %v", by, l)
		}
	}
}

// TestLayBusy: nothing is laid where one of the keys has an intent, or the transaction.
func TestLayBusy(t *testing.T) {
	x := full(t)
	for _, c := range []struct {
		by   api.Txn
		keys string
	}{
		// By has intents: of other keys, of the same, of all.
		{one, "k"}, {one, "a"}, {one, "e a c"}, {one, "a c e"}, {one, "a k"}, {one, "b"}, {two, "k"}, {two, "b d"}, {two, "a"},
		// A key has one of another transaction: the only one, the first, the last, one between, all.
		{three, "a"}, {three, "b"}, {three, "e"},
		{three, "a k l m"}, {three, "k l m a"}, {three, "k a l m"}, {three, "m l k d"}, {three, "d 0 1 2"},
		{three, "a b c d e"}, {three, "e d"}, {api.Txn{}, "c"}, {api.Txn{}, "0 c"},
		{three, "0 1 2 3 4 5 6 7 8 9 A B C D E a"}, {three, "a 0 1 2 3 4 5 6 7 8 9 A B C D E"},
	} {
		if err := x.Lay(c.by, at(5), at(6), "c", of(strings.Fields(c.keys)...)); err != api.ErrBusy {
			t.Errorf("Lay(%v, %s): %d", c.by, c.keys, err)
		}
		if !slices.Equal(x.All(), fullIntents()) || len(x.By(three)) != 0 || len(x.By(api.Txn{})) != 0 {
			t.Fatalf("Lay(%v, %s) left %v", c.by, c.keys, x.All())
		}
		for _, k := range []string{"k", "l", "m", "0", "9", "A"} {
			if i, ok := x.Of(k); ok {
				t.Fatalf("Lay(%v, %s) left %v", c.by, c.keys, i)
			}
		}
	}
	// What was refused binds nothing: the same transaction may lay other keys.
	lay(t, x, three, 9, 9, "k", "k", "l", "0")
	if l := x.All(); told(l) != "0 a b c d e k l" {
		t.Error("All:", l)
	}
}

// TestLayOrderOfErrors: where both would fit it is ErrArg.
func TestLayOrderOfErrors(t *testing.T) {
	x := full(t)
	for _, c := range []struct {
		by         api.Txn
		start, min api.Ts
		primary    string
		l          writes
	}{
		// By has intents.
		{one, at(5), at(6), "c", nil},
		{one, at(5), at(6), "c", many(17)},
		{one, at(5), at(6), "c", of("k", "k")},
		{one, beyond, at(6), "c", of("k")},
		{one, at(5), at(maxPhys + 1), "c", of("k")},
		{one, at(5), at(6), "", of("k")},
		{one, at(5), at(6), strings.Repeat("k", maxKey+1), of("k")},
		// A key has one, ahead of what is wrong and behind it.
		{three, at(5), at(6), "c", of("a", "a")},
		{three, at(5), at(6), "c", of("a", "")},
		{three, at(5), at(6), "c", of("", "a")},
		{three, at(5), at(6), "c", writes{{Key: "a"}, {Key: "k", Val: "v", Dead: true}}},
		{three, at(5), at(6), "c", append(of("a"), many(16)...)},
		{three, at(5), at(6), "c", writes{{Key: "a", Val: strings.Repeat("v", maxVal+1)}}},
		{three, beyond, at(6), "c", of("a")},
		{three, at(5), api.Ts{L: maxLogic + 1}, "c", of("a")},
		{three, at(5), at(6), "", of("a")},
		// Both.
		{one, at(5), at(6), "", of("a", "b")},
		{one, beyond, beyond, "", of("a", "a")},
	} {
		if err := x.Lay(c.by, c.start, c.min, c.primary, c.l); err != api.ErrArg {
			t.Errorf("Lay(%v, %v, %v, %q, %v): %d", c.by, c.start, c.min, c.primary, c.l, err)
		}
		if !slices.Equal(x.All(), fullIntents()) {
			t.Fatalf("a refused Lay left %v", x.All())
		}
	}
}

func TestOf(t *testing.T) {
	x := full(t)
	for _, want := range fullIntents() {
		if i, ok := x.Of(want.Write.Key); i != want || !ok {
			t.Errorf("Of(%q): %v %t", want.Write.Key, i, ok)
		}
	}
	for _, k := range append(noKeys(), "A", "a\x00", "aa", "q", "f", "\x00", "\xff") {
		if i, ok := x.Of(k); i != (api.Intent{}) || ok {
			t.Errorf("Of(%.40q): %v %t", k, i, ok)
		}
	}
	if err := x.Lay(three, api.Ts{}, api.Ts{}, "k", writes{{Key: "k", Dead: true}}); err != api.OK {
		t.Fatal("Lay:", err)
	}
	if i, ok := x.Of("k"); i != (api.Intent{By: three, Primary: "k", Write: api.Write{Key: "k", Dead: true}}) || !ok {
		t.Errorf("Of(k): %v %t", i, ok)
	}
	x.Cut(three)
	if i, ok := x.Of("k"); i != (api.Intent{}) || ok {
		t.Errorf("Of(k) behind Cut: %v %t", i, ok)
	}
}

// permutations answers all orders of l.
func permutations(l []string) [][]string {
	if len(l) < 2 {
		return [][]string{slices.Clone(l)}
	}
	var all [][]string
	for i := range l {
		rest := slices.Delete(slices.Clone(l), i, i+1)
		for _, p := range permutations(rest) {
			all = append(all, append([]string{l[i]}, p...))
		}
	}
	return all
}

// TestOrderOfKeys: By, Cut and All tell the order of keys, whatever that of laying.
func TestOrderOfKeys(t *testing.T) {
	for _, keys := range permutations([]string{"a", "b", "a\x00", "\xff", "B"}) {
		// All of one transaction.
		x := latch.New()
		lay(t, x, one, 5, 6, "k", keys...)
		if told(x.By(one)) != "B a a\x00 b \xff" || told(x.All()) != "B a a\x00 b \xff" || told(x.Cut(one)) != "B a a\x00 b \xff" {
			t.Errorf("laid as %q: %v", keys, x.All())
		}
		// One each.
		for i, k := range keys {
			lay(t, x, api.Txn{N: uint32(i)}, 5, 6, "k", k)
		}
		if l := x.All(); told(l) != "B a a\x00 b \xff" {
			t.Errorf("laid one by one as %q: %v", keys, l)
		}
		// Two and three.
		x = latch.New()
		lay(t, x, two, 5, 6, "k", keys[:2]...)
		lay(t, x, one, 5, 6, "k", keys[2:]...)
		for by, k := range map[api.Txn][]string{two: keys[:2], one: keys[2:]} {
			want := strings.Join(slices.Sorted(slices.Values(k)), " ")
			if l := x.By(by); told(l) != want || l[0].By != by {
				t.Errorf("laid as %q: %v, want %q", keys, l, want)
			}
		}
		if l := x.All(); told(l) != "B a a\x00 b \xff" {
			t.Errorf("laid by two as %q: %v", keys, l)
		}
		if l := x.Cut(two); told(l) != strings.Join(slices.Sorted(slices.Values(keys[:2])), " ") {
			t.Errorf("laid by two as %q: Cut: %v", keys, l)
		}
	}
}

func TestByAndCut(t *testing.T) {
	x := full(t)
	all := fullIntents()
	ofOne, ofTwo := intents{all[0], all[2], all[4]}, intents{all[1], all[3]}
	for range 2 {
		if l := x.By(one); !slices.Equal(l, ofOne) {
			t.Error("By(one):", l)
		}
		if l := x.By(two); !slices.Equal(l, ofTwo) {
			t.Error("By(two):", l)
		}
	}
	// Those that have none: names that have a part in common with others.
	for _, by := range []api.Txn{three, {}, {Client: 1}, {N: 1}, {Client: 2, N: 2}} {
		if l := slices.Concat(x.By(by), x.Cut(by)); len(l) != 0 || !slices.Equal(x.All(), all) {
			t.Errorf("By, Cut of %v: %v, All: %v", by, l, x.All())
		}
	}
	if l := x.Cut(one); !slices.Equal(l, ofOne) || !slices.Equal(x.All(), ofTwo) || len(x.By(one)) != 0 || !slices.Equal(x.By(two), ofTwo) {
		t.Error("Cut(one):", l, "All:", x.All())
	}
	for _, k := range []string{"a", "c", "e"} {
		if i, ok := x.Of(k); i != (api.Intent{}) || ok {
			t.Errorf("Of(%q) behind Cut: %v", k, i)
		}
	}
	if l := x.Cut(one); len(l) != 0 || !slices.Equal(x.All(), ofTwo) {
		t.Error("second Cut(one):", l)
	}
	if x.Raise(one, greatest) || !slices.Equal(x.All(), ofTwo) {
		t.Error("Raise behind Cut")
	}
	if l := x.Cut(two); !slices.Equal(l, ofTwo) || len(x.All()) != 0 {
		t.Error("Cut(two):", l)
	}
}

// TestLayBehindCut: keys and names are free again, and nothing of what was is left.
func TestLayBehindCut(t *testing.T) {
	x := full(t)
	x.Raise(one, at(20))
	x.Cut(one)
	// Another transaction takes one of the keys.
	lay(t, x, three, 9, 10, "e", "e", "k")
	// The same one comes again, with fewer keys and lower stamps.
	if err := x.Lay(one, at(1), at(2), "k", of("e", "a")); err != api.ErrBusy {
		t.Error("Lay of e:", err)
	}
	if err := x.Lay(one, at(1), at(2), "z", writes{{Key: "c", Dead: true}}); err != api.OK {
		t.Error("Lay of c:", err)
	}
	again := api.Intent{By: one, Start: at(1), Min: at(2), Primary: "z", Write: api.Write{Key: "c", Dead: true}}
	want := intents{intent(two, 7, 8, "q", "b"), again, intent(two, 7, 8, "q", "d"), intent(three, 9, 10, "e", "e"), intent(three, 9, 10, "e", "k")}
	if !slices.Equal(x.All(), want) || !slices.Equal(x.By(one), intents{again}) {
		t.Errorf("All: %v, want %v", x.All(), want)
	}
	if l := x.Cut(one); !slices.Equal(l, intents{again}) {
		t.Error("Cut:", l)
	}
	for i := range 50 {
		lay(t, x, one, uint64(i), uint64(i), "a", "a", "c")
		if l := x.Cut(one); !slices.Equal(l, intents{intent(one, uint64(i), uint64(i), "a", "a"), intent(one, uint64(i), uint64(i), "a", "c")}) {
			t.Fatalf("%d: Cut: %v", i, l)
		}
	}
}

func TestRaise(t *testing.T) {
	x := latch.New()
	if err := x.Lay(one, at(5), api.Ts{P: 6, L: 3}, "a", of("c", "a")); err != api.OK {
		t.Fatal("Lay:", err)
	}
	lay(t, x, two, 5, 6, "b", "b")
	for _, c := range []struct {
		by   api.Txn
		to   api.Ts
		ok   bool
		want api.Ts // one's Min then
	}{
		// Below, at and above.
		{one, api.Ts{}, true, api.Ts{P: 6, L: 3}},
		{one, api.Ts{P: 5, L: maxLogic}, true, api.Ts{P: 6, L: 3}},
		{one, api.Ts{P: 6, L: 2}, true, api.Ts{P: 6, L: 3}},
		{one, api.Ts{P: 6, L: 3}, true, api.Ts{P: 6, L: 3}},
		{one, api.Ts{P: 6, L: 4}, true, api.Ts{P: 6, L: 4}},
		{one, at(7), true, at(7)},
		{one, api.Ts{P: 6, L: maxLogic}, true, at(7)},
		{one, at(7), true, at(7)},
		// Not right: above by its order, or below.
		{one, at(maxPhys + 1), false, at(7)},
		{one, beyond, false, at(7)},
		{one, api.Ts{P: 8, L: maxLogic + 1}, false, at(7)},
		{one, api.Ts{P: 1, L: maxLogic + 1}, false, at(7)},
		{one, api.Ts{L: math.MaxUint32}, false, at(7)},
		// Those that have none.
		{three, at(9), false, at(7)},
		{api.Txn{}, at(9), false, at(7)},
		{three, beyond, false, at(7)},
		{three, api.Ts{}, false, at(7)},
		// Up to the greatest.
		{one, api.Ts{P: 8, L: maxLogic}, true, api.Ts{P: 8, L: maxLogic}},
		{one, at(maxPhys), true, at(maxPhys)},
		{one, greatest, true, greatest},
		{one, at(9), true, greatest},
	} {
		if ok := x.Raise(c.by, c.to); ok != c.ok {
			t.Errorf("Raise(%v, %v): %t", c.by, c.to, ok)
		}
		a, o := intent(one, 5, 6, "a", "a"), intent(one, 5, 6, "a", "c")
		a.Min, o.Min = c.want, c.want
		want := intents{a, intent(two, 5, 6, "b", "b"), o}
		if !slices.Equal(x.All(), want) || !slices.Equal(x.By(one), intents{a, o}) || !slices.Equal(x.By(two), want[1:2]) {
			t.Fatalf("behind Raise(%v, %v): %v, want %v", c.by, c.to, x.All(), want)
		}
		for _, i := range want {
			if got, ok := x.Of(i.Write.Key); got != i || !ok {
				t.Errorf("behind Raise(%v, %v): Of: %v %t", c.by, c.to, got, ok)
			}
		}
		if _, ok := x.First("c", "", c.want, nil); !ok {
			t.Errorf("behind Raise(%v, %v): First at its Min: none", c.by, c.to)
		}
	}
	if !x.Raise(two, at(8)) || told(x.Cut(two)) != "b" || x.Raise(two, at(9)) {
		t.Error("Raise of two")
	}
	lay(t, x, two, 5, 6, "b", "b")
	if i, _ := x.Of("b"); i.Min != at(6) {
		t.Error("a raised Min stayed behind Cut:", i)
	}
}

func TestRaiseOfSixteen(t *testing.T) {
	x := latch.New()
	if x.Lay(one, at(5), at(6), "a", many(maxWrites)) != api.OK || x.Lay(two, at(5), at(6), "a", of("a")) != api.OK || !x.Raise(one, at(7)) {
		t.Fatal("Lay, Raise")
	}
	for i := range maxWrites {
		if got, _ := x.Of(wide(i)); got.Min != at(7) || got.Start != at(5) {
			t.Errorf("Of(%q): %v", wide(i), got)
		}
	}
	if got, _ := x.Of("a"); got.Min != at(6) {
		t.Error("Of(a):", got)
	}
}

func TestFirst(t *testing.T) {
	// b and f of one from 6 on, d and h of two from 8.3 on, j of three from none on.
	x := latch.New()
	lay(t, x, one, 5, 6, "b", "f", "b")
	if x.Lay(two, at(7), api.Ts{P: 8, L: 3}, "d", of("d", "h")) != api.OK || x.Lay(three, at(9), api.Ts{}, "j", of("j")) != api.OK {
		t.Fatal("Lay")
	}
	late, none := at(100), []api.Txn(nil)
	for _, c := range []struct {
		from, to string
		at       api.Ts
		but      []api.Txn
		want     string
	}{
		{"", "", late, none, "b"},
		// Stamps below, at and above an intent's Min.
		{"", "", api.Ts{}, none, "j"},
		{"", "", at(5), none, "j"},
		{"", "", api.Ts{P: 5, L: maxLogic}, none, "j"},
		{"", "", at(6), none, "b"},
		{"", "", api.Ts{P: 6, L: 1}, none, "b"},
		{"c", "", at(6), none, "f"},
		{"c", "", api.Ts{P: 8, L: 2}, none, "f"},
		{"c", "", api.Ts{P: 8, L: 3}, none, "d"},
		{"c", "", api.Ts{P: 8, L: 4}, none, "d"},
		{"c", "e", api.Ts{P: 8, L: 2}, none, ""},
		{"c", "e", at(8), none, ""},
		{"c", "e", api.Ts{P: 8, L: 3}, none, "d"},
		{"c", "e", at(9), none, "d"},
		{"", "j", at(5), none, ""},
		{"", "", greatest, none, "b"},
		// Stamps that aren't right: by their order.
		{"", "", beyond, none, "b"},
		{"", "", api.Ts{P: 5, L: math.MaxUint32}, none, "j"},
		{"d", "", api.Ts{P: 8, L: maxLogic + 1}, none, "d"},
		// A from that has an intent, and that has none.
		{"a", "", late, none, "b"},
		{"b", "", late, none, "b"},
		{"b\x00", "", late, none, "d"},
		{"c", "", late, none, "d"},
		{"d", "", late, none, "d"},
		{"e", "", late, none, "f"},
		{"h\x00", "", late, none, "j"},
		{"j", "", late, none, "j"},
		{"j\x00", "", late, none, ""},
		{"z", "", late, none, ""},
		// A to that has one, and that has none.
		{"", "a", late, none, ""},
		{"", "b", late, none, ""},
		{"", "b\x00", late, none, "b"},
		{"", "c", late, none, "b"},
		{"c", "d", late, none, ""},
		{"c", "d\x00", late, none, "d"},
		{"b\x00", "d", late, none, ""},
		{"i", "j", late, none, ""},
		{"i", "k", late, none, "j"},
		// A from that isn't ahead of to.
		{"b", "b", late, none, ""},
		{"d", "b", late, none, ""},
		{"c", "c", late, none, ""},
		{"z", "a", late, none, ""},
		// Ends that are no keys.
		{strings.Repeat("b", 70000), "", late, none, "d"},
		{"", strings.Repeat("a", 70000), late, none, ""},
		{"", strings.Repeat("b", 70000), late, none, "b"},
		{strings.Repeat("h", maxKey+1), strings.Repeat("j", maxKey+1), late, none, "j"},
		// But none, one, several, all, and others.
		{"", "", late, []api.Txn{}, "b"},
		{"", "", late, []api.Txn{one}, "d"},
		{"", "", late, []api.Txn{two}, "b"},
		{"", "", late, []api.Txn{three}, "b"},
		{"", "", late, []api.Txn{one, two}, "j"},
		{"", "", late, []api.Txn{two, one}, "j"},
		{"", "", late, []api.Txn{one, three}, "d"},
		{"", "", late, []api.Txn{one, two, three}, ""},
		{"", "", late, []api.Txn{three, {}, two, two, one}, ""},
		{"", "", late, []api.Txn{{}, {Client: 1}, {N: 1}, {Client: 2, N: 2}}, "b"},
		{"", "", late, []api.Txn{{}, {}, {}, {}, {}, {}, {}, {}, {}, {}, {}, {}, {}, {}, {}, {}, {}, {}, one}, "d"},
		{"c", "i", late, []api.Txn{two}, "f"},
		{"c", "f", late, []api.Txn{two}, ""},
		{"", "", at(6), []api.Txn{one}, "j"},
		{"", "j", at(6), []api.Txn{one}, ""},
		{"", "", at(5), []api.Txn{three}, ""},
	} {
		i, ok := x.First(c.from, c.to, c.at, c.but)
		if i.Write.Key != c.want || ok != (c.want != "") {
			t.Errorf("First(%.9q, %.9q, %v, %v): %v %t, want %q", c.from, c.to, c.at, c.but, i, ok, c.want)
		}
		want, _ := x.Of(c.want)
		if i != want {
			t.Errorf("First(%.9q, %.9q, %v, %v): %v, but Of: %v", c.from, c.to, c.at, c.but, i, want)
		}
	}
}

// TestFirstPassesOver: many that are passed over stand ahead of the one, and some behind it.
func TestFirstPassesOver(t *testing.T) {
	for _, ahead := range []int{0, 1, 2, 15, 16, 30, 31, 32, 33, 34, 62, 63, 64, 65, 66, 95, 96, 97, 500} {
		for way := range 3 {
			x := latch.New()
			var but []api.Txn
			for i := range ahead {
				by, least := api.Txn{Client: 9, N: uint32(i)}, uint64(7)
				if way == 0 || way == 2 && i%2 == 0 {
					least = 6
					but = append(but, by)
				}
				lay(t, x, by, 5, least, "k", wide(i))
			}
			if i, ok := x.First("", "", at(6), but); i != (api.Intent{}) || ok {
				t.Fatalf("%d ahead: %v %t", ahead, i, ok)
			}
			lay(t, x, one, 5, 6, "k", wide(ahead))
			lay(t, x, two, 5, 6, "k", wide(ahead+1), wide(ahead+2))
			want := intent(one, 5, 6, "k", wide(ahead))
			for _, to := range []string{"", wide(ahead + 1), wide(ahead) + "\x00", "\xff"} {
				if i, ok := x.First("", to, at(6), but); i != want || !ok {
					t.Fatalf("%d ahead, to %q: %v %t, want %v", ahead, to, i, ok, want)
				}
			}
			if i, ok := x.First("", wide(ahead), at(6), but); i != (api.Intent{}) || ok {
				t.Fatalf("%d ahead, to the one: %v %t", ahead, i, ok)
			}
			if i, ok := x.First(wide(ahead), "", at(6), but); i != want || !ok {
				t.Fatalf("%d ahead, from the one: %v %t", ahead, i, ok)
			}
		}
	}
}

// TestFirstOfNeighbours: no text stands between one key and the next, so that none can be stepped over.
func TestFirstOfNeighbours(t *testing.T) {
	var keys []string
	for n := 1; n <= maxKey; n++ {
		keys = append(keys, strings.Repeat("\x00", n))
	}
	for n := 1; n < maxKey; n++ {
		keys = append(keys, "b"+strings.Repeat("\x00", n))
	}
	keys = append(keys, strings.Repeat("\xff", maxKey-1), strings.Repeat("\xff", maxKey-1)+"\x00", strings.Repeat("\xff", maxKey))
	x := latch.New()
	for i, k := range keys {
		lay(t, x, api.Txn{N: uint32(i)}, 5, 6, "k", k)
	}
	var but []api.Txn
	for i, k := range keys {
		if got, ok := x.First("", "", at(6), but); got.Write.Key != k || !ok {
			t.Fatalf("First but %d: %v %t, want %q", len(but), got, ok, k)
		}
		but = append(but, api.Txn{N: uint32(i)})
	}
	if i, ok := x.First("", "", at(6), but); i != (api.Intent{}) || ok {
		t.Fatalf("First but all: %v", i)
	}
}

// TestFirstOfSixteen: a transaction's own keys among others.
func TestFirstOfSixteen(t *testing.T) {
	x := latch.New()
	for n := range 20 {
		var l writes
		for i := range maxWrites {
			l = append(l, api.Write{Key: wide(i*20 + n)})
		}
		slices.Reverse(l)
		if err := x.Lay(api.Txn{N: uint32(n)}, at(5), at(uint64(n)), "k", l); err != api.OK {
			t.Fatal("Lay:", err)
		}
	}
	for u := range uint64(20) {
		for from := range maxWrites * 20 {
			// The next key whose place among twenty isn't above u: this one, or the next twenty's first.
			want := from
			if uint64(from%20) > u {
				want = (from/20 + 1) * 20
			}
			i, ok := x.First(wide(from), "", at(u), nil)
			if want == maxWrites*20 {
				if ok {
					t.Fatalf("First from %d at %d: %v", from, u, i)
				}
			} else if !ok || i.Write.Key != wide(want) || i.By.N != uint32(want%20) {
				t.Fatalf("First from %d at %d: %v %t, want %d", from, u, i, ok, want)
			}
		}
	}
}

func TestMany(t *testing.T) {
	x, p := latch.New(), &plain{}
	for n := range 300 {
		var keys []string
		for i := range 1 + n%5 {
			keys = append(keys, wide((n*5+i)*7919%3001))
		}
		lay(t, x, api.Txn{N: uint32(n)}, uint64(n), uint64(n*31%300), keys[0], keys...)
		lay(t, p, api.Txn{N: uint32(n)}, uint64(n), uint64(n*31%300), keys[0], keys...)
	}
	var keys []string
	var names []api.Txn
	for n := range 300 {
		keys = append(keys, wide(n*10))
		names = append(names, api.Txn{N: uint32(n)})
	}
	ends := []string{"", wide(100), wide(1500), wide(2999)}
	stamps := []api.Ts{at(0), at(1), at(150), at(299)}
	alike(t, x, p, keys, names, ends, stamps, [][]api.Txn{nil, names[:16], names})
	for n := range 300 {
		by := names[n*7%300]
		if x.Raise(by, at(150)) != p.Raise(by, at(150)) {
			t.Fatalf("Raise(%v)", by)
		}
		if n%3 == 0 && !slices.Equal(x.Cut(by), p.Cut(by)) {
			t.Fatalf("Cut(%v)", by)
		}
	}
	alike(t, x, p, keys, names, ends, stamps, [][]api.Txn{nil, names[:16], names})
}

// spoil writes over l and the room behind it.
func spoil(l intents) {
	whole := l[:cap(l)]
	for i := range whole {
		whole[i] = intent(three, 1, 1, "spoilt", "spoilt")
	}
}

// TestMemoryOfAnswers: what is done with a list that was answered changes nothing in the table, and what is done in the table changes no such list.
func TestMemoryOfAnswers(t *testing.T) {
	x := full(t)
	for range 3 {
		spoil(x.All())
		spoil(x.By(one))
		spoil(x.By(two))
		spoil(x.By(three))
		if !slices.Equal(x.All(), fullIntents()) || told(x.By(one)) != "a c e" || told(x.By(two)) != "b d" {
			t.Fatal("what was done with lists shows in the table:", x.All())
		}
	}
	all, byOne, byTwo := x.All(), x.By(one), x.By(two)
	wants := []intents{slices.Clone(all), slices.Clone(byOne), slices.Clone(byTwo)}
	x.Raise(one, at(9))
	cut := x.Cut(two)
	x.Raise(one, at(10))
	lay(t, x, three, 1, 2, "0", "0", "b", "k")
	lay(t, x, two, 3, 4, "d", "d")
	spoil(x.Cut(one))
	for n, l := range []intents{all, byOne, byTwo} {
		if !slices.Equal(l, wants[n]) {
			t.Error("what was done in the table shows in a list:", l)
		}
	}
	if !slices.Equal(cut, wants[2]) {
		t.Error("what was done in the table shows in what was cut:", cut)
	}
	spoil(cut)
	if l := x.All(); told(l) != "0 b d k" || l[2] != intent(two, 3, 4, "d", "d") {
		t.Error("what was done with what was cut shows in the table:", l)
	}
	// No two answers share memory.
	first, second := x.All(), x.All()
	spoil(first)
	if !slices.Equal(second, x.All()) {
		t.Error("two answers share memory")
	}
}

// TestMemoryOfArguments: what is handed in isn't changed, nor the room behind it, and isn't kept.
func TestMemoryOfArguments(t *testing.T) {
	behind := of("e", "a", "c", "x", "z", "y")
	list, want := behind[:3], slices.Clone(behind)
	x := latch.New()
	latch.Right(list)
	if err := x.Lay(one, at(5), at(6), "c", list); err != api.OK || !slices.Equal(behind, want) {
		t.Fatal("Lay changed its list:", behind)
	}
	if err := x.Lay(two, at(7), at(8), "q", list); err != api.ErrBusy || !slices.Equal(behind, want) {
		t.Fatal("a refused Lay changed its list:", behind)
	}
	for i := range behind {
		behind[i] = api.Write{Key: "spoilt", Val: "spoilt", Dead: true}
	}
	lay(t, x, two, 7, 8, "q", "d", "b")
	if !slices.Equal(x.All(), fullIntents()) || told(x.By(one)) != "a c e" {
		t.Error("what was done with the list shows in the table:", x.All())
	}
	names := []api.Txn{two, one, two, three, {}}
	but := names[:1]
	if i, ok := x.First("b", "", at(9), but); i.Write.Key != "c" || !ok || !slices.Equal(names, []api.Txn{two, one, two, three, {}}) {
		t.Error("First:", i, ok, names)
	}
	names[0] = one
	if i, ok := x.First("b", "", at(9), nil); i.Write.Key != "b" || !ok {
		t.Error("First:", i, ok)
	}
	if told(x.Cut(one)) != "a c e" || told(x.All()) != "b d" {
		t.Error("Cut:", x.All())
	}
}

// TestAskingChangesNothing: all that is asked may be asked again.
func TestAskingChangesNothing(t *testing.T) {
	x, p := full(t), &plain{laid: fullIntents()}
	for range 3 {
		alike(t, x, p, append(noKeys(), "a", "b", "k", "e"), []api.Txn{{}, one, two, three}, []string{"", "a", "b", "zz"}, []api.Ts{{}, at(5), at(6), at(7), at(8), beyond}, [][]api.Txn{nil, {one}, {two, one}})
	}
}

// do makes the call of both, which must answer the same.
func do(t *testing.T, x, p teller, call func(teller) (api.Errno, bool, intents)) {
	t.Helper()
	err, ok, l := call(x)
	wantErr, wantOk, want := call(p)
	if err != wantErr || ok != wantOk || !slices.Equal(l, want) {
		t.Fatalf("%d %t %v, want %d %t %v", err, ok, l, wantErr, wantOk, want)
	}
}

// TestEveryCall makes all sequences of up to four out of some calls.
func TestEveryCall(t *testing.T) {
	type action = func(teller) (api.Errno, bool, intents)
	laying := func(by api.Txn, start, least uint64, keys ...string) action {
		return func(x teller) (api.Errno, bool, intents) {
			return x.Lay(by, at(start), at(least), keys[0], of(keys...)), false, nil
		}
	}
	cutting := func(by api.Txn) action {
		return func(x teller) (api.Errno, bool, intents) { return 0, false, x.Cut(by) }
	}
	raising := func(by api.Txn, u api.Ts) action {
		return func(x teller) (api.Errno, bool, intents) { return 0, x.Raise(by, u), nil }
	}
	calls := []action{
		laying(one, 1, 2, "a"), laying(one, 3, 3, "b", "a"), laying(one, 1, 4, "c", "b"), laying(one, 1, 2, "a", "a"),
		laying(two, 2, 2, "b"), laying(two, 3, 5, "a", "c"), laying(two, 1, 1, "c", "b", "a"), laying(two, 1, maxPhys+1, "a"),
		cutting(one), cutting(two),
		raising(one, at(3)), raising(one, at(5)), raising(one, beyond), raising(two, at(2)), raising(two, at(4)),
	}
	keys, ends, names := []string{"a", "b", "c", "d"}, []string{"", "a", "b", "c", "d"}, []api.Txn{one, two, three}
	stamps := []api.Ts{at(1), at(2), at(3), at(4), at(5)}
	buts := [][]api.Txn{nil, {one}, {two}, {one, two}}
	for length, all := 0, 1; length <= 4; length, all = length+1, all*len(calls) {
		for n := range all {
			x, p := latch.New(), &plain{}
			for i, rest := 0, n; i < length; i, rest = i+1, rest/len(calls) {
				do(t, x, p, calls[rest%len(calls)])
			}
			if length <= 3 {
				alike(t, x, p, keys, names, ends, stamps, buts)
			} else {
				alike(t, x, p, keys, names, ends[:1], stamps[1:4], buts[:2])
			}
		}
	}
}

// some answers one of few stamps, seldom one that isn't right.
func some(r *rand.Rand) api.Ts {
	if r.Intn(40) == 0 {
		return wrongStamps()[r.Intn(len(wrongStamps()))]
	}
	return api.Ts{P: uint64(r.Intn(7)), L: uint32(r.Intn(3))}
}

// name answers one of few transactions.
func name(r *rand.Rand) api.Txn {
	return api.Txn{Client: uint32(r.Intn(3)), N: uint32(r.Intn(4))}
}

// names answers up to 16 of them.
func names(r *rand.Rand) []api.Txn {
	var l []api.Txn
	for range r.Intn(17) {
		l = append(l, name(r))
	}
	return l
}

// text answers a text of few letters, some of them the beginnings of others, seldom one that is no key.
func text(r *rand.Rand, letters string, most int) string {
	if r.Intn(80) == 0 {
		return noKeys()[r.Intn(len(noKeys()))]
	}
	b := make([]byte, 1+r.Intn(most))
	for i := range b {
		b[i] = letters[r.Intn(len(letters))]
	}
	return string(b)
}

// chance answers writes, most often few, seldom such that aren't right.
func chance(r *rand.Rand, letters string, most int) writes {
	var l writes
	count := r.Intn(4)
	if r.Intn(10) == 0 {
		count = r.Intn(18)
	}
	for range count {
		w := api.Write{Key: text(r, letters, most), Dead: r.Intn(3) == 0}
		if !w.Dead || r.Intn(30) == 0 {
			w.Val = strings.Repeat("v", r.Intn(3))
		}
		l = append(l, w)
	}
	return l
}

// call answers a call by chance that changes a table.
func call(r *rand.Rand, letters string, most int) func(teller) (api.Errno, bool, intents) {
	by, start, least, primary, l := name(r), some(r), some(r), text(r, letters, most), chance(r, letters, most)
	switch r.Intn(6) {
	case 0:
		return func(x teller) (api.Errno, bool, intents) { return 0, false, x.Cut(by) }
	case 1:
		return func(x teller) (api.Errno, bool, intents) { return 0, x.Raise(by, least), nil }
	}
	return func(x teller) (api.Errno, bool, intents) { return x.Lay(by, start, least, primary, l), false, nil }
}

// TestByChance makes calls of all kinds, on few keys and on many.
func TestByChance(t *testing.T) {
	for seed := range 150 {
		r := rand.New(rand.NewSource(int64(seed)))
		letters := []string{"ab", "\x00\xff", "abcdefgh", "\x00\x01a\x7f\x80\xff"}[seed%4]
		most := 1 + seed%4
		x, p := latch.New(), &plain{}
		for range 200 {
			do(t, x, p, call(r, letters, most))
			keys := []string{text(r, letters, most), text(r, letters, most)}
			ends := []string{"", text(r, letters, most), text(r, letters, most+1)}
			alike(t, x, p, keys, []api.Txn{name(r)}, ends, []api.Ts{some(r), some(r)}, [][]api.Txn{nil, names(r)})
		}
	}
}

// P10.2: a key has one intent at most; what is laid is there till it is cut, with a Min that only rises.

// held tells whether an intent that was is still the same, but for its Min, which may have risen.
func held(was, is api.Intent) bool {
	risen := !above(was.Min, is.Min)
	was.Min = is.Min
	return risen && was == is
}

// TestStays: each intent that was there ahead of a call is there behind it, unless that cut its transaction.
func TestStays(t *testing.T) {
	for seed := range 100 {
		r := rand.New(rand.NewSource(int64(1000 + seed)))
		letters := []string{"abc", "\x00\x7f\xff", "abcdefghijklmnop"}[seed%3]
		x := latch.New()
		for range 300 {
			before := x.All()
			var cut api.Txn
			isCut, laid := false, writes(nil)
			by := name(r)
			switch r.Intn(8) {
			case 0:
				cut, isCut = by, true
				x.Cut(by)
			case 1, 2, 3:
				x.Raise(by, some(r))
			default:
				l := chance(r, letters, 2)
				if x.Lay(by, some(r), some(r), text(r, letters, 2), l) == api.OK {
					laid = l
				}
			}
			count := len(laid)
			for _, was := range before {
				is, ok := x.Of(was.Write.Key)
				if isCut && was.By == cut {
					if ok {
						t.Fatalf("seed %d: %v is there behind its Cut", seed, is)
					}
					continue
				}
				count++
				if !ok || !held(was, is) {
					t.Fatalf("seed %d: %v became %v %t", seed, was, is, ok)
				}
			}
			for _, w := range laid {
				if is, ok := x.Of(w.Key); !ok || is.Write != w || is.By != by {
					t.Fatalf("seed %d: laid %v, is %v %t", seed, w, is, ok)
				}
			}
			single(t, x, count)
		}
	}
}

// single asks whether the table has count intents, no two of one key, and whether those of a transaction have the same Start, Min and Primary.
func single(t *testing.T, x *latch.Table, count int) {
	t.Helper()
	all := x.All()
	if len(all) != count {
		t.Fatalf("%d intents, want %d: %v", len(all), count, all)
	}
	of := 0
	for n, i := range all {
		if n > 0 && all[n-1].Write.Key >= i.Write.Key {
			t.Fatalf("two of one key, or out of order: %v", all)
		}
		l := x.By(i.By)
		if l[0] == i {
			of += len(l)
		}
		if l[0].Start != i.Start || l[0].Min != i.Min || l[0].Primary != i.Primary {
			t.Fatalf("%v, but %v of the same transaction", i, l[0])
		}
	}
	if of != count {
		t.Fatalf("By tells of %d intents, All of %d", of, count)
	}
}

// TestMinOnlyRises: raised by any stamps in any order, the Min is the greatest right one of them.
func TestMinOnlyRises(t *testing.T) {
	for seed := range 50 {
		r := rand.New(rand.NewSource(int64(seed)))
		x := latch.New()
		most := some(r)
		if x.Lay(one, at(5), most, "a", of("a", "b")) != api.OK {
			continue
		}
		for range 100 {
			u := some(r)
			if x.Raise(one, u) && above(u, most) {
				most = u
			}
			for _, i := range x.By(one) {
				if i.Min != most || !right(i.Min) {
					t.Fatalf("seed %d: Raise(%v): %v, want %v", seed, u, i.Min, most)
				}
			}
		}
	}
}
