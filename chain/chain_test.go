package chain_test

import (
	"math"
	"math/rand"
	"slices"
	"sort"
	"strings"
	"testing"

	"dovecote/api"
	"dovecote/chain"
)

const (
	maxPhys  = uint64(281474976710656)
	maxLogic = uint32(4095)
	maxVal   = 256
	maxChain = 1000
)

var (
	none     = api.Version{}
	one      = api.Txn{Client: 1, N: 1}
	two      = api.Txn{Client: 1, N: 2}
	greatest = api.Ts{P: maxPhys, L: maxLogic}
)

type list = []api.Version

// at answers a stamp of whole numbers alone.
func at(p uint64) api.Ts { return api.Ts{P: p} }

// live and dead answer versions by one, at stamps of whole numbers.
func live(p uint64, val string) api.Version { return api.Version{At: at(p), By: one, Val: val} }
func dead(p uint64) api.Version             { return api.Version{At: at(p), By: one, Dead: true} }

// fall answers a chain of n versions, whose stamps fall by 2 to 2.
func fall(n int) list {
	var l list
	for i := n; i > 0; i-- {
		l = append(l, live(uint64(2*i), "v"))
	}
	return l
}

// The document's words a second time.

func plainCan(v api.Version) bool {
	return v.At.P <= maxPhys && v.At.L <= maxLogic && len(v.Val) <= maxVal && (!v.Dead || len(v.Val) == 0)
}

// above tells whether a's stamp is later than b's.
func above(a, b api.Ts) bool { return a.P > b.P || a.P == b.P && a.L > b.L }

func plainRight(c list) bool {
	for _, v := range c {
		if !plainCan(v) {
			return false
		}
	}
	// Each below the one ahead of it: sorted, and no stamp twice.
	had := map[api.Ts]bool{}
	for _, v := range c {
		had[v.At] = true
	}
	newest := sort.SliceIsSorted(c, func(i, j int) bool { return above(c[i].At, c[j].At) })
	return len(c) <= maxChain && newest && len(had) == len(c)
}

func plainPut(c list, v api.Version) (list, api.Errno) {
	if !plainRight(c) || !plainCan(v) {
		return nil, api.ErrArg
	}
	if slices.Contains(c, v) {
		return c, api.OK
	}
	if slices.ContainsFunc(c, func(w api.Version) bool { return w.At == v.At }) {
		return nil, api.ErrBusy
	}
	if len(c) == maxChain {
		return nil, api.ErrMore
	}
	with := append(list{v}, c...)
	sort.Slice(with, func(i, j int) bool { return above(with[i].At, with[j].At) })
	return with, api.OK
}

// plainAt goes from the oldest one up.
func plainAt(c list, t api.Ts) (api.Version, bool) {
	var last api.Version
	found := false
	if !plainRight(c) {
		return last, false
	}
	for i := len(c) - 1; i >= 0; i-- {
		if !above(c[i].At, t) {
			last, found = c[i], true
		}
	}
	return last, found
}

func plainNewest(c list) api.Ts {
	var most api.Ts
	if plainRight(c) {
		for _, v := range c {
			if above(v.At, most) {
				most = v.At
			}
		}
	}
	return most
}

func plainPrune(c list, safe api.Ts) list {
	var kept list
	if !plainRight(c) {
		return kept
	}
	for _, v := range c {
		if above(v.At, safe) {
			kept = append(kept, v)
		}
	}
	if v, ok := plainAt(c, safe); ok && !v.Dead {
		kept = append(kept, v)
	}
	return kept
}

// told answers what a snapshot makes of At: a dead one is as none.
func told(c list, t api.Ts) (string, bool) {
	v, ok := chain.At(c, t)
	return v.Val, ok && !v.Dead
}

// Each of these holds one call against the plain one, and sees to it that what was handed in is as it was.

// room answers c with room behind it that is marked, and the whole of it.
func room(c list) (list, list) {
	whole := append(slices.Clone(c), live(77, "mark"), live(76, "mark"))
	return whole[:len(c)], whole
}

func checkRoom(t *testing.T, call string, c, whole list) {
	t.Helper()
	if !slices.Equal(whole, append(slices.Clone(c), live(77, "mark"), live(76, "mark"))) {
		t.Fatalf("%s changed %v, or the room behind it, to %v", call, c, whole)
	}
}

func checkRight(t *testing.T, c list) {
	t.Helper()
	in, whole := room(c)
	if got, want := chain.Right(in), plainRight(c); got != want {
		t.Errorf("Right(%v) = %t", c, got)
	}
	checkRoom(t, "Right", c, whole)
}

func checkPut(t *testing.T, c list, v api.Version) {
	t.Helper()
	in, whole := room(c)
	got, err := chain.Put(in, v)
	want, wantErr := plainPut(c, v)
	if !slices.Equal(got, want) || err != wantErr {
		t.Errorf("Put(%v, %v) = %v, %d, not %v, %d", c, v, got, err, want, wantErr)
	}
	checkRoom(t, "Put", c, whole)
	checkOwn(t, "Put", c, got, whole)
	if err != api.OK {
		return
	}
	if !chain.Right(got) {
		t.Errorf("Put(%v, %v) = %v: no chain", c, v, got)
	}
}

func checkAt(t *testing.T, c list, u api.Ts) {
	t.Helper()
	in, whole := room(c)
	got, ok := chain.At(in, u)
	want, wantOk := plainAt(c, u)
	if got != want || ok != wantOk {
		t.Errorf("At(%v, %v) = %v, %t, not %v, %t", c, u, got, ok, want, wantOk)
	}
	checkRoom(t, "At", c, whole)
}

func checkNewest(t *testing.T, c list) {
	t.Helper()
	in, whole := room(c)
	if got, want := chain.Newest(in), plainNewest(c); got != want {
		t.Errorf("Newest(%v) = %v, not %v", c, got, want)
	}
	checkRoom(t, "Newest", c, whole)
}

func checkPrune(t *testing.T, c list, safe api.Ts) {
	t.Helper()
	in, whole := room(c)
	got, want := chain.Prune(in, safe), plainPrune(c, safe)
	if !slices.Equal(got, want) {
		t.Errorf("Prune(%v, %v) = %v, not %v", c, safe, got, want)
	}
	checkRoom(t, "Prune", c, whole)
	checkOwn(t, "Prune", c, got, whole)
}

// checkOwn writes all over what was answered, and behind it: it is memory of its own.
func checkOwn(t *testing.T, call string, c, got, whole list) {
	t.Helper()
	own := slices.Clone(got)
	for i := range got {
		got[i] = live(99, "other")
	}
	_ = append(got, live(98, "other"), live(97, "other"))
	checkRoom(t, "writing to what "+call+" answered", c, whole)
	copy(got, own)
}

func checkAll(t *testing.T, c list, puts list, stamps []api.Ts) {
	t.Helper()
	checkRight(t, c)
	checkNewest(t, c)
	for _, v := range puts {
		checkPut(t, c, v)
	}
	for _, u := range stamps {
		checkAt(t, c, u)
		checkPrune(t, c, u)
	}
}

// kinds answers versions at u: of several values and writers, and dead ones.
func kinds(u api.Ts) list {
	return list{
		{At: u, By: one, Val: "x"},
		{At: u, By: one, Val: "y"},
		{At: u, By: two, Val: "x"},
		{At: u, By: one},
		{At: u, By: one, Dead: true},
		{At: u, By: two, Dead: true},
	}
}

// places answers stamps that fall, close by and far off, the limits among them.
func places() []api.Ts {
	return []api.Ts{greatest, {P: 5, L: 1}, {P: 5}, {}}
}

// about answers stamps at, above and below each of places, some of them not right.
func about() []api.Ts {
	return []api.Ts{
		{P: math.MaxUint64, L: math.MaxUint32}, {P: maxPhys + 1}, {P: maxPhys, L: maxLogic + 1},
		greatest, {P: maxPhys, L: maxLogic - 1}, {P: maxPhys - 1, L: math.MaxUint32},
		{P: 6}, {P: 5, L: math.MaxUint32}, {P: 5, L: 2}, {P: 5, L: 1}, {P: 5},
		{P: 4, L: math.MaxUint32}, {P: 4, L: maxLogic}, {L: 1}, {},
	}
}

// chains answers all chains of versions of kinds at places.
func chains() []list {
	all := []list{nil}
	for _, u := range places() {
		for _, c := range all[:len(all):len(all)] {
			for _, v := range kinds(u) {
				all = append(all, append(slices.Clone(c), v))
			}
		}
	}
	return all
}

// wrong answers versions that can't be in a chain.
func wrong() list {
	return list{
		{At: api.Ts{P: maxPhys + 1}, By: one, Val: "x"},
		{At: api.Ts{P: math.MaxUint64, L: math.MaxUint32}},
		{At: api.Ts{P: 5, L: maxLogic + 1}, By: one, Val: "x"},
		{At: api.Ts{P: maxPhys, L: maxLogic + 1}, By: one, Dead: true},
		{At: api.Ts{L: math.MaxUint32}},
		{At: at(5), By: one, Val: strings.Repeat("v", maxVal+1)},
		{At: at(5), By: one, Val: strings.Repeat("v", 70000)},
		{At: at(5), By: one, Val: "x", Dead: true},
		{At: at(5), By: one, Val: "\x00", Dead: true},
		{At: at(5), By: one, Val: strings.Repeat("v", maxVal), Dead: true},
		{At: at(5), By: one, Val: strings.Repeat("v", maxVal+1), Dead: true},
	}
}

// noChains answers lists that are no chains, each for one reason: the fault at the beginning, inside, at the end.
func noChains() []list {
	all := []list{
		{live(1, "a"), live(2, "b")},
		{live(5, "a"), live(5, "a")},
		{live(5, "a"), live(5, "b")},
		{live(5, "a"), dead(5)},
		{dead(5), dead(5)},
		{live(9, "a"), live(5, "b"), live(5, "b"), live(3, "c")},
		{live(9, "a"), live(5, "b"), live(6, "b"), live(3, "c")},
		{live(9, "a"), live(5, "b"), live(3, "c"), live(4, "d")},
		{live(9, "a"), live(5, "b"), live(3, "c"), live(3, "c")},
		{live(3, "a"), live(9, "b"), live(5, "c")},
		{live(9, "a"), live(5, "b"), live(9, "a")},
		{{At: api.Ts{P: 5, L: 3}}, {At: api.Ts{P: 5, L: 4}}},
		{{At: api.Ts{P: 5, L: 4}}, {At: api.Ts{P: 6, L: 3}}},
		{none, none},
		{none, live(1, "a")},
		fall(maxChain + 1),
		fall(5 * maxChain),
	}
	for _, v := range wrong() {
		all = append(all, list{v}, list{live(9, "a"), live(7, "b"), v, live(3, "c")})
		all = append(all, list{live(9, "a"), live(7, "b"), v}, list{v, live(3, "c"), dead(2)})
	}
	return all
}

// P7.1

func TestRight(t *testing.T) {
	long := strings.Repeat("v", maxVal)
	for i, c := range []list{
		nil,
		{},
		{none},
		{live(5, "x")},
		{live(5, "")},
		{dead(5)},
		{live(5, long)},
		{live(5, long[:maxVal-1])},
		{live(5, "x"), dead(3)},
		{dead(5), dead(4)},
		{live(5, "x"), live(4, "x"), live(3, "x")},
		{live(5, long), live(4, long), dead(3), live(2, long)},
		{{At: greatest}, {At: api.Ts{P: maxPhys, L: maxLogic - 1}}, {At: api.Ts{P: maxPhys}}, {At: api.Ts{P: maxPhys - 1, L: maxLogic}}, {At: api.Ts{L: 1}}, {}},
		{{At: api.Ts{P: 6}}, {At: api.Ts{P: 5, L: 4095}}},
		{{At: at(5), By: api.Txn{Client: math.MaxUint32, N: math.MaxUint32}, Val: "\xff\x00"}},
		fall(maxChain - 1),
		fall(maxChain),
	} {
		if !chain.Right(c) {
			t.Errorf("%d: not right: %v", i, c)
		}
		checkRight(t, c)
	}
	for i, c := range noChains() {
		if chain.Right(c) {
			t.Errorf("%d: right: %v", i, c)
		}
		checkRight(t, c)
	}
}

func TestPut(t *testing.T) {
	c := list{live(9, "n"), dead(7), live(5, "f")}
	for _, s := range []struct {
		c    list
		v    api.Version
		want list
		err  api.Errno
	}{
		// To none.
		{nil, live(5, "x"), list{live(5, "x")}, api.OK},
		{list{}, dead(5), list{dead(5)}, api.OK},
		{nil, none, list{none}, api.OK},
		{nil, api.Version{At: greatest, Val: strings.Repeat("v", maxVal)}, list{{At: greatest, Val: strings.Repeat("v", maxVal)}}, api.OK},
		// Ahead of all, between two, behind all.
		{c, live(10, "x"), list{live(10, "x"), c[0], c[1], c[2]}, api.OK},
		{c, dead(10), list{dead(10), c[0], c[1], c[2]}, api.OK},
		{c, live(8, "x"), list{c[0], live(8, "x"), c[1], c[2]}, api.OK},
		{c, live(6, ""), list{c[0], c[1], live(6, ""), c[2]}, api.OK},
		{c, live(4, "x"), list{c[0], c[1], c[2], live(4, "x")}, api.OK},
		{c, none, list{c[0], c[1], c[2], none}, api.OK},
		{c, api.Version{At: api.Ts{P: 7, L: 1}, Val: "x"}, list{c[0], {At: api.Ts{P: 7, L: 1}, Val: "x"}, c[1], c[2]}, api.OK},
		{c, api.Version{At: api.Ts{P: 5, L: 4095}, Val: "x"}, list{c[0], c[1], {At: api.Ts{P: 5, L: 4095}, Val: "x"}, c[2]}, api.OK},
		// Of one that it has.
		{c, live(9, "n"), c, api.OK},
		{c, dead(7), c, api.OK},
		{c, live(5, "f"), c, api.OK},
		{list{none}, none, list{none}, api.OK},
		// Of another one at its stamp: another value, another writer, dead or not.
		{c, live(9, "m"), nil, api.ErrBusy},
		{c, live(9, ""), nil, api.ErrBusy},
		{c, live(9, "nn"), nil, api.ErrBusy},
		{c, api.Version{At: at(9), By: two, Val: "n"}, nil, api.ErrBusy},
		{c, api.Version{At: at(9), By: api.Txn{Client: 2, N: 1}, Val: "n"}, nil, api.ErrBusy},
		{c, api.Version{At: at(9), Val: "n"}, nil, api.ErrBusy},
		{c, dead(9), nil, api.ErrBusy},
		{c, live(7, ""), nil, api.ErrBusy},
		{c, live(7, "x"), nil, api.ErrBusy},
		{c, api.Version{At: at(7), By: two, Dead: true}, nil, api.ErrBusy},
		{c, dead(5), nil, api.ErrBusy},
		{list{none}, api.Version{Dead: true}, nil, api.ErrBusy},
		// To what is no chain, also of what it has, also of what can't be in one.
		{list{live(1, "a"), live(2, "b")}, live(5, "x"), nil, api.ErrArg},
		{list{live(1, "a"), live(2, "b")}, live(1, "a"), nil, api.ErrArg},
		{list{live(5, "a"), live(5, "b")}, live(5, "c"), nil, api.ErrArg},
		{list{live(5, "a"), live(5, "b")}, api.Version{At: at(5), Val: "x", Dead: true}, nil, api.ErrArg},
	} {
		got, err := chain.Put(s.c, s.v)
		if !slices.Equal(got, s.want) || err != s.err {
			t.Errorf("Put(%v, %v) = %v, %d, not %v, %d", s.c, s.v, got, err, s.want, s.err)
		}
		checkPut(t, s.c, s.v)
	}
}

func TestPutWrong(t *testing.T) {
	long := strings.Repeat("v", maxVal)
	for _, c := range []list{nil, {live(5, "x")}, {live(5, long)}, {dead(5)}, {live(9, "n"), dead(7), live(3, "f")}, fall(maxChain)} {
		for i, v := range wrong() {
			if got, err := chain.Put(c, v); len(got) != 0 || err != api.ErrArg {
				t.Errorf("%d: Put of what can't be in a chain: %v, %d", i, got, err)
			}
		}
	}
	for i, c := range noChains() {
		for _, v := range append(slices.Clone(c[:min(len(c), 4)]), live(5, "x"), live(100, "x"), none) {
			if got, err := chain.Put(c, v); len(got) != 0 || err != api.ErrArg {
				t.Errorf("%d: Put to what is no chain: %v, %d", i, got, err)
			}
		}
	}
}

func TestPutFull(t *testing.T) {
	full := fall(maxChain)
	for _, v := range (list{live(2001, "v"), live(1001, "v"), live(1, "v"), dead(3), none, {At: greatest}}) {
		if got, err := chain.Put(full, v); len(got) != 0 || err != api.ErrMore {
			t.Errorf("Put(full, %v): %d versions, %d", v, len(got), err)
		}
		checkPut(t, full, v)
		checkPut(t, full[1:], v)
		checkPut(t, full[:maxChain-1], v)
	}
	for _, p := range []uint64{2000, 1998, 1000, 4, 2} {
		if got, err := chain.Put(full, live(p, "v")); !slices.Equal(got, full) || err != api.OK {
			t.Errorf("Put of what a full chain has at %d: %d versions, %d", p, len(got), err)
		}
		for _, v := range (list{live(p, "w"), dead(p), {At: at(p), By: two, Val: "v"}}) {
			if got, err := chain.Put(full, v); len(got) != 0 || err != api.ErrBusy {
				t.Errorf("Put(full, %v): %d versions, %d", v, len(got), err)
			}
		}
	}
	nearly := full[:maxChain-1]
	if got, err := chain.Put(nearly, live(2, "v")); !slices.Equal(got, full) || err != api.OK {
		t.Errorf("Put of the last that there is room for: %d versions, %d", len(got), err)
	}
}

func TestAt(t *testing.T) {
	x, d, y := live(9, "x"), dead(7), live(5, "y")
	c := list{x, d, y}
	for _, s := range []struct {
		c    list
		t    api.Ts
		want api.Version
		ok   bool
	}{
		// Above all.
		{c, at(10), x, true},
		{c, api.Ts{P: 9, L: 1}, x, true},
		{c, greatest, x, true},
		// At a stamp.
		{c, at(9), x, true},
		{c, at(7), d, true},
		{c, at(5), y, true},
		// Between two.
		{c, api.Ts{P: 8, L: 4095}, d, true},
		{c, at(8), d, true},
		{c, at(6), y, true},
		{c, api.Ts{P: 5, L: 1}, y, true},
		// Below all.
		{c, api.Ts{P: 4, L: 4095}, none, false},
		{c, at(4), none, false},
		{c, api.Ts{}, none, false},
		// At a t that isn't right: as Less has it.
		{c, api.Ts{P: math.MaxUint64, L: math.MaxUint32}, x, true},
		{c, api.Ts{P: maxPhys + 1}, x, true},
		{c, api.Ts{P: 8, L: 4096}, d, true},
		{c, api.Ts{P: 6, L: math.MaxUint32}, y, true},
		{c, api.Ts{P: 4, L: math.MaxUint32}, none, false},
		// Of none, of one at the zero stamp.
		{nil, at(5), none, false},
		{list{}, greatest, none, false},
		{list{none}, api.Ts{}, none, true},
		{list{{Val: "z"}}, api.Ts{}, api.Version{Val: "z"}, true},
		// The examples of the chapter.
		{list{live(5, "x"), dead(3)}, at(4), dead(3), true},
		{list{live(5, "x"), dead(3)}, at(5), live(5, "x"), true},
		{list{live(5, "x"), dead(3)}, at(9), live(5, "x"), true},
		{list{live(5, "x"), dead(3)}, at(2), none, false},
	} {
		if got, ok := chain.At(s.c, s.t); got != s.want || ok != s.ok {
			t.Errorf("At(%v, %v) = %v, %t, not %v, %t", s.c, s.t, got, ok, s.want, s.ok)
		}
	}
	full := fall(maxChain)
	for p := uint64(0); p <= 2002; p++ {
		checkAt(t, full, at(p))
	}
}

func TestNewest(t *testing.T) {
	for _, s := range []struct {
		c    list
		want api.Ts
	}{
		{nil, api.Ts{}},
		{list{}, api.Ts{}},
		{list{none}, api.Ts{}},
		{list{live(9, "x")}, at(9)},
		{list{dead(9)}, at(9)},
		{list{live(9, "x"), dead(7), live(5, "y")}, at(9)},
		{list{{At: api.Ts{P: 5, L: 7}}, {At: api.Ts{P: 5, L: 6}}}, api.Ts{P: 5, L: 7}},
		{list{{At: greatest}, none}, greatest},
		{fall(maxChain), at(2000)},
	} {
		if got := chain.Newest(s.c); got != s.want {
			t.Errorf("Newest(%v) = %v, not %v", s.c, got, s.want)
		}
	}
}

func TestPrune(t *testing.T) {
	x, d, y, e := live(9, "x"), dead(7), live(5, "y"), dead(3)
	c := list{x, d, y, e}
	for _, s := range []struct {
		c    list
		safe api.Ts
		want list
	}{
		// Above all: the first one isn't dead, is dead.
		{c, at(10), list{x}},
		{c, greatest, list{x}},
		{list{d, y, e}, at(10), nil},
		{list{d}, greatest, nil},
		// At a stamp.
		{c, at(9), list{x}},
		{c, at(7), list{x}},
		{c, at(5), list{x, d, y}},
		{c, at(3), list{x, d, y}},
		// Between two: the first that isn't above is dead, isn't dead.
		{c, at(8), list{x}},
		{c, api.Ts{P: 7, L: 1}, list{x}},
		{c, at(6), list{x, d, y}},
		{c, api.Ts{P: 8, L: 4095}, list{x}},
		{c, at(4), list{x, d, y}},
		// Below all, also where the last one is dead.
		{c, at(2), c},
		{c, api.Ts{P: 2, L: 4095}, c},
		{c, api.Ts{}, c},
		{list{x}, at(8), list{x}},
		{list{d}, at(6), list{d}},
		// A safe that isn't right: as Less has it.
		{c, api.Ts{P: math.MaxUint64, L: math.MaxUint32}, list{x}},
		{c, api.Ts{P: 6, L: math.MaxUint32}, list{x, d, y}},
		{c, api.Ts{P: 2, L: math.MaxUint32}, c},
		// Of none, and at the zero stamp.
		{nil, at(5), nil},
		{list{}, at(5), nil},
		{list{none}, api.Ts{}, list{none}},
		{list{{Dead: true}}, api.Ts{}, nil},
		// A value of no bytes isn't dead.
		{list{live(5, ""), live(3, "y")}, at(6), list{live(5, "")}},
		// The examples of the chapter.
		{list{live(5, "x"), dead(3)}, at(4), list{live(5, "x")}},
		{list{live(5, "x"), dead(3)}, at(6), list{live(5, "x")}},
	} {
		if got := chain.Prune(s.c, s.safe); !slices.Equal(got, s.want) {
			t.Errorf("Prune(%v, %v) = %v, not %v", s.c, s.safe, got, s.want)
		}
	}
	full := fall(maxChain)
	for p := uint64(0); p <= 2002; p += 91 {
		checkPrune(t, full, at(p))
		checkPrune(t, full, at(p+1))
	}
}

func TestOfNoChain(t *testing.T) {
	for i, c := range noChains() {
		for _, u := range append(about(), at(5), at(9), at(3)) {
			if v, ok := chain.At(c, u); v != none || ok {
				t.Errorf("%d: At(%v) = %v, %t", i, u, v, ok)
			}
			if l := chain.Prune(c, u); len(l) != 0 {
				t.Errorf("%d: Prune(%v) = %v", i, u, l)
			}
		}
		if u := chain.Newest(c); u != (api.Ts{}) {
			t.Errorf("%d: Newest = %v", i, u)
		}
	}
}

// All chains of four places, and all that can be asked of them.
func TestAllChains(t *testing.T) {
	puts := wrong()
	for _, u := range append(places(), api.Ts{P: maxPhys, L: maxLogic - 1}, api.Ts{P: 5, L: 2}, api.Ts{P: 4}, api.Ts{L: 1}) {
		puts = append(puts, kinds(u)...)
	}
	for _, c := range chains() {
		checkAll(t, c, puts, about())
	}
}

// All lists of three out of a few versions, chains or not.
func TestAllLists(t *testing.T) {
	some := list{live(5, "x"), live(4, "x"), dead(4), dead(3), none, {At: api.Ts{P: 4, L: maxLogic + 1}}, {At: api.Ts{P: 4, L: 1}}, {At: at(4), Val: "x", Dead: true}}
	stamps := []api.Ts{at(6), at(5), {P: 4, L: maxLogic + 1}, {P: 4, L: 1}, at(4), at(3), at(2), {}}
	for _, a := range some {
		for _, b := range some {
			checkAll(t, list{a, b}, some, stamps)
			for _, c := range some {
				checkAll(t, list{a, b, c}, some, stamps)
			}
		}
	}
}

// By chance: lists, most of them chains.
func TestByChance(t *testing.T) {
	r := rand.New(rand.NewSource(7))
	for range 3000 {
		var c list
		for range r.Intn(12) {
			c = append(c, chance(r))
		}
		slices.SortFunc(c, func(a, b api.Version) int {
			if above(a.At, b.At) {
				return -1
			}
			return 1
		})
		if r.Intn(4) > 0 {
			c = slices.CompactFunc(c, func(a, b api.Version) bool { return a.At == b.At })
		}
		if r.Intn(8) == 0 {
			r.Shuffle(len(c), func(i, j int) { c[i], c[j] = c[j], c[i] })
		}
		var puts list
		var stamps []api.Ts
		for range 8 {
			puts, stamps = append(puts, chance(r)), append(stamps, chance(r).At)
		}
		checkAll(t, c, append(puts, c...), stamps)
	}
}

// chance answers a version at one of few stamps, seldom one that can't be in a chain.
func chance(r *rand.Rand) api.Version {
	v := api.Version{At: api.Ts{P: uint64(r.Intn(6)), L: uint32(r.Intn(4))}, By: api.Txn{Client: uint32(r.Intn(2)), N: uint32(r.Intn(2))}}
	switch r.Intn(4) {
	case 0:
		v.Dead = true
	case 1:
		v.Val = strings.Repeat("v", r.Intn(3))
	}
	switch r.Intn(60) {
	case 0:
		v.At.L = maxLogic + 1
	case 1:
		v.At.P = maxPhys + 1
	case 2:
		v.Val = strings.Repeat("v", maxVal+r.Intn(2))
	case 3:
		v.Dead, v.Val = true, "v"
	}
	return v
}

// P7.2

func TestAtBehindPut(t *testing.T) {
	for _, c := range chains() {
		for _, u := range append(places(), api.Ts{P: 5, L: 2}, api.Ts{P: 4}) {
			for _, v := range kinds(u) {
				with, err := chain.Put(c, v)
				if err != api.OK {
					continue
				}
				checkSeenBehindPut(t, c, v, with)
			}
		}
	}
}

// checkSeenBehindPut: v where it is the newest that isn't above, what was told everywhere else.
func checkSeenBehindPut(t *testing.T, c list, v api.Version, with list) {
	t.Helper()
	for _, u := range about() {
		want, ok := chain.At(c, u)
		if !above(v.At, u) && (!ok || above(v.At, want.At)) {
			want, ok = v, true
		}
		if got, gotOk := chain.At(with, u); got != want || gotOk != ok {
			t.Errorf("At(%v) behind Put(%v, %v) = %v, %t, not %v, %t", u, c, v, got, gotOk, want, ok)
		}
	}
}

func TestAtBehindPrune(t *testing.T) {
	for _, c := range chains() {
		for _, safe := range about() {
			less := chain.Prune(c, safe)
			if !chain.Right(less) {
				t.Errorf("Prune(%v, %v) = %v: no chain", c, safe, less)
			}
			if again := chain.Prune(less, safe); !slices.Equal(again, less) {
				t.Errorf("Prune(%v, %v) = %v, and once more %v", c, safe, less, again)
			}
			for _, u := range about() {
				if above(safe, u) {
					continue
				}
				want, wantOk := told(c, u)
				if got, ok := told(less, u); got != want || ok != wantOk {
					t.Errorf("At(%v) behind Prune(%v, %v) tells %q, %t, not %q, %t", u, c, safe, got, ok, want, wantOk)
				}
			}
		}
	}
}

// Versions are put, and pruned by a safe that rises: each snapshot that isn't below it sees what all versions tell.
func TestPutAndPrune(t *testing.T) {
	r := rand.New(rand.NewSource(72))
	for range 100 {
		var all, some list
		var safe, last api.Ts
		for range 50 {
			last = api.Ts{P: last.P + uint64(r.Intn(2)), L: last.L + 1 + uint32(r.Intn(2))}
			v := api.Version{At: last, Val: strings.Repeat("v", r.Intn(4))}
			if r.Intn(3) == 0 {
				v = api.Version{At: last, Dead: true}
			}
			all, some = put(t, all, v), put(t, some, v)
			if u := all[r.Intn(len(all))].At; r.Intn(4) == 0 && above(u, safe) {
				safe = u
				some = chain.Prune(some, safe)
			}
			checkSameSeen(t, all, some, safe)
		}
	}
}

// checkSameSeen: from safe on, both lists tell the same at all stamps of the first one, and behind each.
func checkSameSeen(t *testing.T, all, some list, safe api.Ts) {
	t.Helper()
	for _, v := range all {
		for _, u := range []api.Ts{v.At, {P: v.At.P, L: v.At.L + 1}, safe} {
			if above(safe, u) {
				continue
			}
			want, wantOk := told(all, u)
			if got, ok := told(some, u); got != want || ok != wantOk {
				t.Fatalf("At(%v) of %v tells %q, %t; of all, %v: %q, %t", u, some, got, ok, all, want, wantOk)
			}
		}
	}
}

// P7.3

func TestOrderOfPuts(t *testing.T) {
	vs := list{live(9, "x"), dead(7), {At: api.Ts{P: 7, L: 1}, By: two, Val: "y"}, live(5, ""), {At: greatest, Dead: true}, none}
	want := list{vs[4], vs[0], vs[2], vs[1], vs[3], vs[5]}
	orders(vs, func(l list) {
		var c list
		for i, v := range l {
			c = put(t, c, v)
			// One that is there already may be put at any time.
			c = put(t, c, l[i/2])
		}
		if !slices.Equal(c, want) {
			t.Errorf("put as %v: %v, not %v", l, c, want)
		}
	})
}

func TestOrderOfPutsFull(t *testing.T) {
	full := fall(maxChain)
	r := rand.New(rand.NewSource(73))
	for range 3 {
		var c list
		for _, i := range r.Perm(maxChain) {
			c = put(t, c, full[i])
		}
		if !slices.Equal(c, full) {
			t.Error("put by chance, not the same chain")
		}
	}
}

// put answers c with v, which there is a place for.
func put(t *testing.T, c list, v api.Version) list {
	t.Helper()
	c, err := chain.Put(c, v)
	if err != api.OK {
		t.Fatalf("Put(%v): %d", v, err)
	}
	return c
}

// orders calls f with vs in each of their orders.
func orders(vs list, f func(list)) {
	var turn func(n int)
	turn = func(n int) {
		if n == len(vs) {
			f(vs)
			return
		}
		for i := n; i < len(vs); i++ {
			vs[n], vs[i] = vs[i], vs[n]
			turn(n + 1)
			vs[n], vs[i] = vs[i], vs[n]
		}
	}
	turn(0)
}
