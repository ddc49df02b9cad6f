package verdict_test

import (
	"math"
	"math/rand"
	"slices"
	"sort"
	"testing"

	"dovecote/api"
	"dovecote/verdict"
)

const (
	maxPhys  = uint64(281474976710656)
	maxLogic = uint32(4095)
)

var (
	one      = api.Txn{Client: 1, N: 1}
	two      = api.Txn{Client: 1, N: 2}
	three    = api.Txn{Client: 2, N: 1}
	four     = api.Txn{Client: 2, N: 2}
	last     = api.Txn{Client: math.MaxUint32, N: math.MaxUint32}
	greatest = api.Ts{P: maxPhys, L: maxLogic}
	beyond   = api.Ts{P: math.MaxUint64, L: math.MaxUint32}
)

type verdicts = []api.Verdict

type txns = []api.Txn

// at answers a stamp of whole numbers alone.
func at(p uint64) api.Ts { return api.Ts{P: p} }

// right tells whether u is within the limits of stamps.
func right(u api.Ts) bool { return u.P <= maxPhys && u.L <= maxLogic }

// below tells whether a is earlier than b.
func below(a, b api.Ts) bool { return a.P < b.P || a.P == b.P && a.L < b.L }

// undone answers that by, which began at start, is undone.
func undone(by api.Txn, start uint64) api.Verdict {
	return api.Verdict{By: by, Start: at(start)}
}

// committed answers that by, which began at start, has committed by end.
func committed(by api.Txn, start, end uint64, parts uint8) api.Verdict {
	return api.Verdict{By: by, Start: at(start), At: at(end), Parts: parts}
}

// done answers v, but Done.
func done(v api.Verdict) api.Verdict {
	v.Done = true
	return v
}

// notDone answers v, but not Done.
func notDone(v api.Verdict) api.Verdict {
	v.Done = false
	return v
}

// teller is what the book and the plain one answer.
type teller interface {
	Set(v api.Verdict) api.Errno
	Of(by api.Txn) (api.Verdict, bool)
	Done(by api.Txn) bool
	Retire(safe api.Ts, keep []api.Txn) int
	All() []api.Verdict
}

// plain is the document's words a second time, without a map: the verdicts in the order of their setting.
type plain struct {
	list verdicts
}

func (p *plain) place(by api.Txn) int {
	return slices.IndexFunc(p.list, func(v api.Verdict) bool { return v.By == by })
}

func (p *plain) Set(v api.Verdict) api.Errno {
	switch none := v.At.P == 0 && v.At.L == 0; {
	case !right(v.Start), !right(v.At), none && v.Parts != 0, none && v.Done:
		return api.ErrArg
	}
	i := p.place(v.By)
	if i < 0 {
		p.list = append(p.list, v)
		return api.OK
	}
	if is := p.list[i]; is.Start != v.Start || is.At != v.At || is.Parts != v.Parts {
		return api.ErrBusy
	}
	return api.OK
}

func (p *plain) Of(by api.Txn) (api.Verdict, bool) {
	if i := p.place(by); i >= 0 {
		return p.list[i], true
	}
	return api.Verdict{}, false
}

func (p *plain) Done(by api.Txn) bool {
	i := p.place(by)
	if i < 0 || p.list[i].At.P == 0 && p.list[i].At.L == 0 {
		return false
	}
	p.list[i].Done = true
	return true
}

func (p *plain) Retire(safe api.Ts, keep []api.Txn) int {
	var left verdicts
	for _, v := range p.list {
		waits := !v.Done && (v.At.P != 0 || v.At.L != 0)
		if !below(v.Start, safe) || waits || slices.Contains(keep, v.By) {
			left = append(left, v)
		}
	}
	gone := len(p.list) - len(left)
	p.list = left
	return gone
}

func (p *plain) All() []api.Verdict {
	l := slices.Clone(p.list)
	whole := func(by api.Txn) uint64 { return uint64(by.Client)<<32 + uint64(by.N) }
	sort.Slice(l, func(i, j int) bool { return whole(l[i].By) < whole(l[j].By) })
	return l
}

// alike holds what x tells of all and of names against what p tells.
func alike(t *testing.T, x, p teller, names ...api.Txn) {
	t.Helper()
	if got, want := x.All(), p.All(); !slices.Equal(got, want) {
		t.Fatalf("All: %v, want %v", got, want)
	}
	for _, by := range names {
		got, ok := x.Of(by)
		want, has := p.Of(by)
		if got != want || ok != has {
			t.Fatalf("Of(%v): %v %t, want %v %t", by, got, ok, want, has)
		}
	}
}

// has asks whether b has just these verdicts, told in this order.
func has(t *testing.T, b *verdict.Book, want ...api.Verdict) {
	t.Helper()
	if got := b.All(); !slices.Equal(got, want) {
		t.Fatalf("All: %v, want %v", got, want)
	}
	for _, v := range want {
		if got, ok := b.Of(v.By); got != v || !ok {
			t.Fatalf("Of(%v): %v %t, want %v", v.By, got, ok, v)
		}
	}
}

// book answers a book with verdicts, which must be taken.
func book(t *testing.T, l ...api.Verdict) *verdict.Book {
	t.Helper()
	b := verdict.New()
	for _, v := range l {
		if err := b.Set(v); err != api.OK {
			t.Fatalf("Set(%v): %d", v, err)
		}
	}
	return b
}

// full answers what is in a book with verdicts of all kinds: one is undone, two has committed, three too, and all know of it.
func full() verdicts {
	return verdicts{undone(one, 5), committed(two, 6, 9, 3), done(committed(three, 7, 10, 6))}
}

// wrongStamps answers stamps that aren't right.
func wrongStamps() []api.Ts {
	return []api.Ts{{P: maxPhys + 1}, {P: 5, L: maxLogic + 1}, {P: maxPhys, L: maxLogic + 1}, {P: maxPhys + 1, L: maxLogic + 1}, {P: math.MaxUint64}, {L: maxLogic + 1}, {L: math.MaxUint32}, beyond}
}

// rightVerdicts answers verdicts of by that Set takes, no two of them the same but for Done.
func rightVerdicts(by api.Txn) verdicts {
	return verdicts{
		{By: by},
		{By: by, Start: at(5)},
		{By: by, Start: api.Ts{L: 1}},
		{By: by, Start: api.Ts{P: 5, L: maxLogic}},
		{By: by, Start: at(maxPhys)},
		{By: by, Start: greatest},
		{By: by, At: api.Ts{L: 1}},
		{By: by, At: at(1), Parts: 1},
		{By: by, At: at(1), Parts: 2, Done: true},
		{By: by, Start: at(5), At: at(9)},
		{By: by, Start: at(5), At: at(9), Parts: 3},
		{By: by, Start: at(5), At: at(9), Parts: 128},
		{By: by, Start: at(5), At: at(9), Parts: 255, Done: true},
		{By: by, Start: at(5), At: api.Ts{P: 9, L: 1}, Parts: 255},
		{By: by, Start: at(5), At: api.Ts{P: 9, L: 2}, Done: true},
		// Not above its start: the chapter does not rule it out.
		{By: by, Start: at(5), At: at(5)},
		{By: by, Start: at(5), At: at(4), Parts: 1},
		{By: by, Start: at(5), At: at(maxPhys)},
		{By: by, Start: at(maxPhys), At: greatest},
		{By: by, Start: greatest, At: greatest, Parts: 255, Done: true},
	}
}

// wrongVerdicts answers verdicts of by that Set refuses.
func wrongVerdicts(by api.Txn) verdicts {
	l := verdicts{
		{By: by, Parts: 1},
		{By: by, Parts: 255},
		{By: by, Done: true},
		{By: by, Parts: 1, Done: true},
		{By: by, Start: at(5), Parts: 1},
		{By: by, Start: at(5), Parts: 2},
		{By: by, Start: at(5), Parts: 128},
		{By: by, Start: at(5), Parts: 255},
		{By: by, Start: at(5), Done: true},
		{By: by, Start: at(5), Parts: 3, Done: true},
		{By: by, Start: greatest, Parts: 3},
		{By: by, Start: greatest, Done: true},
	}
	for _, u := range wrongStamps() {
		l = append(l,
			api.Verdict{By: by, Start: u},
			api.Verdict{By: by, Start: u, Parts: 1},
			api.Verdict{By: by, Start: u, Done: true},
			api.Verdict{By: by, Start: u, At: at(9)},
			api.Verdict{By: by, Start: u, At: at(9), Parts: 3, Done: true},
			api.Verdict{By: by, At: u},
			api.Verdict{By: by, Start: at(5), At: u},
			api.Verdict{By: by, Start: at(5), At: u, Parts: 3},
			api.Verdict{By: by, Start: at(5), At: u, Parts: 3, Done: true},
			api.Verdict{By: by, Start: greatest, At: u, Done: true},
			api.Verdict{By: by, Start: u, At: u},
			api.Verdict{By: by, Start: u, At: u, Parts: 3, Done: true},
		)
	}
	return l
}

// some answers one of few stamps, seldom one that isn't right.
func some(r *rand.Rand) api.Ts {
	if r.Intn(40) == 0 {
		return wrongStamps()[r.Intn(len(wrongStamps()))]
	}
	return api.Ts{P: uint64(r.Intn(3)), L: uint32(r.Intn(2))}
}

// name answers one of few transactions.
func name(r *rand.Rand) api.Txn {
	return api.Txn{Client: uint32(r.Intn(3)), N: uint32(r.Intn(4))}
}

// names answers up to six of them.
func names(r *rand.Rand) txns {
	var l txns
	for range r.Intn(7) {
		l = append(l, name(r))
	}
	return l
}

// chance answers a verdict of few, seldom one that isn't right.
func chance(r *rand.Rand) api.Verdict {
	v := api.Verdict{By: name(r), Start: some(r)}
	if r.Intn(3) > 0 {
		v.At = some(r)
	}
	if v.At != (api.Ts{}) || r.Intn(20) == 0 {
		v.Parts, v.Done = uint8(r.Intn(3)), r.Intn(2) == 0
	}
	return v
}
