package verdict_test

import (
	"math"
	"math/rand"
	"slices"
	"testing"

	"dovecote/api"
	"dovecote/verdict"
)

// P11.1: each call answers as the chapter says, in any order.

func TestExamples(t *testing.T) {
	b := verdict.New()
	if err := b.Set(api.Verdict{By: one, At: at(9)}); err != api.OK {
		t.Error("Set of one, committed at 9:", err)
	}
	if err := b.Set(api.Verdict{By: one}); err != api.ErrBusy {
		t.Error("Set of one, undone:", err)
	}
	if n := b.Retire(at(100), nil); n != 0 {
		t.Error("Retire:", n)
	}
	if !b.Done(one) {
		t.Error("Done")
	}
	if n := b.Retire(at(100), nil); n != 1 {
		t.Error("Retire behind Done:", n)
	}
}

// nothing asks for what a book without verdicts must answer.
func nothing(t *testing.T, b *verdict.Book) {
	t.Helper()
	for _, by := range (txns{{}, one, two, three, last}) {
		if v, ok := b.Of(by); v != (api.Verdict{}) || ok {
			t.Errorf("Of(%v): %v %t", by, v, ok)
		}
		if b.Done(by) {
			t.Errorf("Done(%v)", by)
		}
		if v, ok := b.Of(by); v != (api.Verdict{}) || ok {
			t.Errorf("Of(%v) behind Done: %v %t", by, v, ok)
		}
	}
	for _, u := range append(wrongStamps(), api.Ts{}, at(5), greatest) {
		for _, keep := range []txns{nil, {}, {{}}, {one}, {one, two, {}, one}} {
			if n := b.Retire(u, keep); n != 0 {
				t.Errorf("Retire(%v, %v): %d", u, keep, n)
			}
		}
	}
	if l := b.All(); len(l) != 0 {
		t.Errorf("All: %v", l)
	}
}

func TestNilBook(t *testing.T) {
	var b *verdict.Book
	nothing(t, b)
	for _, by := range (txns{{}, one, last}) {
		for _, v := range append(rightVerdicts(by), wrongVerdicts(by)...) {
			if err := b.Set(v); err != api.ErrArg {
				t.Errorf("Set(%v): %d", v, err)
			}
		}
	}
	nothing(t, b)
}

func TestEmptyBook(t *testing.T) {
	if verdict.New() == nil {
		t.Fatal("New answers nil")
	}
	nothing(t, verdict.New())
	refused := verdict.New()
	for _, by := range (txns{{}, one, last}) {
		for _, v := range wrongVerdicts(by) {
			refused.Set(v)
			refused.Done(by)
		}
	}
	nothing(t, refused)
	retired := book(t, full()...)
	retired.Done(two)
	if n := retired.Retire(greatest, nil); n != 3 {
		t.Error("Retire:", n)
	}
	nothing(t, retired)
}

// TestUnmadeBook: what a book answers that New hasn't made isn't said, but no call panics.
func TestUnmadeBook(t *testing.T) {
	b := &verdict.Book{}
	for _, v := range append(rightVerdicts(one), wrongVerdicts(one)...) {
		b.Set(v)
		b.Of(one)
		b.Done(one)
		b.All()
		b.Retire(greatest, nil)
		b.Retire(greatest, txns{one})
	}
}

func TestBooksApart(t *testing.T) {
	a, b := book(t, full()...), book(t, committed(one, 1, 2, 1))
	b.Done(one)
	has(t, a, full()...)
	has(t, b, done(committed(one, 1, 2, 1)))
	if n := a.Retire(greatest, nil); n != 2 {
		t.Error("Retire:", n)
	}
	has(t, b, done(committed(one, 1, 2, 1)))
}

// TestSet: each right verdict is taken, and is there as it was handed in.
func TestSet(t *testing.T) {
	for _, by := range (txns{{}, one, {Client: 1}, {N: 1}, last}) {
		for _, v := range rightVerdicts(by) {
			b := verdict.New()
			if err := b.Set(v); err != api.OK {
				t.Errorf("Set(%v): %d", v, err)
			}
			has(t, b, v)
		}
	}
}

func TestSetOfAllParts(t *testing.T) {
	for parts := range 256 {
		for _, isDone := range []bool{false, true} {
			for _, end := range []api.Ts{{}, {L: 1}, at(9), greatest} {
				v := api.Verdict{By: one, Start: at(5), At: end, Parts: uint8(parts), Done: isDone}
				b := verdict.New()
				err := b.Set(v)
				if end == (api.Ts{}) && (parts > 0 || isDone) {
					if err != api.ErrArg {
						t.Errorf("Set(%v): %d", v, err)
					}
					has(t, b)
				} else {
					if err != api.OK {
						t.Errorf("Set(%v): %d", v, err)
					}
					has(t, b, v)
				}
			}
		}
	}
}

// TestSetWrong: what is refused changes nothing, neither where the transaction has no verdict nor where it has one.
func TestSetWrong(t *testing.T) {
	b := book(t, full()...)
	for _, by := range (txns{{}, one, two, three, four, last}) {
		for _, v := range wrongVerdicts(by) {
			if err := b.Set(v); err != api.ErrArg {
				t.Errorf("Set(%v): %d", v, err)
			}
			has(t, b, full()...)
		}
	}
	// What was refused binds nothing.
	if err := b.Set(undone(four, 5)); err != api.OK {
		t.Error("Set of four:", err)
	}
	has(t, b, append(full(), undone(four, 5))...)
}

// TestSetOrderOfErrors: where both would fit it is ErrArg.
func TestSetOrderOfErrors(t *testing.T) {
	for _, is := range rightVerdicts(one) {
		b := book(t, is)
		for _, v := range wrongVerdicts(one) {
			if err := b.Set(v); err != api.ErrArg {
				t.Errorf("Set(%v) where there is %v: %d", v, is, err)
			}
			has(t, b, is)
		}
	}
}

// TestSetAgain: the same verdict is taken, also where it is the same but for Done, and nothing changes.
func TestSetAgain(t *testing.T) {
	for _, v := range rightVerdicts(one) {
		b := book(t, v, undone(two, 5))
		for range 3 {
			if err := b.Set(v); err != api.OK {
				t.Errorf("Set(%v) again: %d", v, err)
			}
			has(t, b, v, undone(two, 5))
		}
		if v.At == (api.Ts{}) {
			continue
		}
		for _, is := range (verdicts{notDone(v), done(v)}) {
			b := book(t, is)
			for _, again := range (verdicts{done(v), notDone(v), done(v)}) {
				if err := b.Set(again); err != api.OK {
					t.Errorf("Set(%v) where there is %v: %d", again, is, err)
				}
				has(t, b, is)
			}
			// Nor does that hinder Done, or undo it.
			if !b.Done(one) || b.Set(notDone(v)) != api.OK || b.Set(done(v)) != api.OK {
				t.Errorf("%v: Done, and Set again", is)
			}
			has(t, b, done(v))
		}
	}
}

// TestSetBusy: where Start, At or Parts is another one, ErrBusy, and nothing changes.
func TestSetBusy(t *testing.T) {
	l := append(rightVerdicts(one),
		committed(one, 6, 9, 3),
		committed(one, 5, 10, 3),
		committed(one, 5, 9, 7),
		api.Verdict{By: one, Start: api.Ts{P: 5, L: 1}, At: at(9), Parts: 3},
		api.Verdict{By: one, Start: at(5), At: api.Ts{P: 9, L: 3}, Parts: 3},
		api.Verdict{By: one, Start: at(9), At: at(5), Parts: 3},
	)
	for i, is := range l {
		b := book(t, is, undone(two, 5))
		for j, other := range l {
			if i == j {
				continue
			}
			others := verdicts{other}
			if other.At != (api.Ts{}) {
				others = verdicts{done(other), notDone(other)}
			}
			for _, v := range others {
				if err := b.Set(v); err != api.ErrBusy {
					t.Errorf("Set(%v) where there is %v: %d", v, is, err)
				}
				has(t, b, is, undone(two, 5))
			}
		}
	}
}

// TestSetOfNeighbours: names that have a part in common are different ones.
func TestSetOfNeighbours(t *testing.T) {
	b := book(t, undone(one, 5))
	for _, by := range (txns{two, three, four, {}, {Client: 1}, {N: 1}, {Client: 1 << 16, N: 1}, {Client: 1, N: 1 << 31}}) {
		if _, ok := b.Of(by); ok || b.Done(by) {
			t.Errorf("Of, Done of %v", by)
		}
		if err := b.Set(committed(by, 6, 9, 3)); err != api.OK {
			t.Errorf("Set of %v: %d", by, err)
		}
	}
	if v, ok := b.Of(one); v != undone(one, 5) || !ok || len(b.All()) != 9 {
		t.Errorf("Of(one): %v %t, All: %v", v, ok, b.All())
	}
}

func TestOf(t *testing.T) {
	b := book(t, full()...)
	for range 2 {
		for _, want := range full() {
			if v, ok := b.Of(want.By); v != want || !ok {
				t.Errorf("Of(%v): %v %t, want %v", want.By, v, ok, want)
			}
		}
		for _, by := range (txns{{}, four, {Client: 1}, {N: 1}, {Client: 3, N: 1}, {Client: 1, N: 3}, last}) {
			if v, ok := b.Of(by); v != (api.Verdict{}) || ok {
				t.Errorf("Of(%v): %v %t", by, v, ok)
			}
		}
	}
	// A verdict may be all zero and be there all the same.
	zero := book(t, api.Verdict{})
	if v, ok := zero.Of(api.Txn{}); v != (api.Verdict{}) || !ok {
		t.Errorf("Of a zero verdict: %v %t", v, ok)
	}
	has(t, zero, api.Verdict{})
}

func TestDone(t *testing.T) {
	b := book(t, full()...)
	// An undone one, and those that have none.
	for _, by := range (txns{one, four, {}, {Client: 1}, {N: 2}, last}) {
		for range 2 {
			if b.Done(by) {
				t.Errorf("Done(%v)", by)
			}
			has(t, b, full()...)
		}
	}
	// One that is Done already.
	if !b.Done(three) {
		t.Error("Done(three)")
	}
	has(t, b, full()...)
	// One that isn't, once and twice.
	for range 3 {
		if !b.Done(two) {
			t.Error("Done(two)")
		}
		has(t, b, full()[0], done(full()[1]), full()[2])
	}
	if b.Retire(greatest, nil) != 3 || b.Done(one) || b.Done(two) || b.Done(three) {
		t.Error("Done behind Retire")
	}
	has(t, b)
}

// TestDoneOfAll: of each right verdict, by At alone.
func TestDoneOfAll(t *testing.T) {
	for _, v := range rightVerdicts(one) {
		b := book(t, v)
		isCommitted := v.At.P > 0 || v.At.L > 0
		for range 2 {
			if b.Done(one) != isCommitted {
				t.Errorf("Done of %v: %t", v, !isCommitted)
			}
			if isCommitted {
				has(t, b, done(v))
			} else {
				has(t, b, v)
			}
		}
	}
}

// TestRetireBySafe: a safe stamp below, at and above a verdict's Start, whatever its At.
func TestRetireBySafe(t *testing.T) {
	start := api.Ts{P: 5, L: 7}
	for _, c := range []struct {
		safe api.Ts
		gone bool
	}{
		{api.Ts{}, false},
		{api.Ts{L: 8}, false},
		{api.Ts{P: 4, L: maxLogic}, false},
		{api.Ts{P: 4, L: 8}, false},
		{at(5), false},
		{api.Ts{P: 5, L: 6}, false},
		{start, false},
		{api.Ts{P: 5, L: 8}, true},
		{api.Ts{P: 5, L: maxLogic}, true},
		{at(6), true},
		{api.Ts{P: 6, L: 6}, true},
		{at(9), true},
		{greatest, true},
		// Not right: by their order.
		{api.Ts{P: 4, L: math.MaxUint32}, false},
		{api.Ts{P: 5, L: maxLogic + 1}, true},
		{at(maxPhys + 1), true},
		{beyond, true},
	} {
		for _, end := range []api.Ts{{}, {L: 1}, at(4), {P: 5, L: 7}, at(9), greatest} {
			for _, isDone := range []bool{false, true} {
				if isDone && end == (api.Ts{}) {
					continue
				}
				v := api.Verdict{By: one, Start: start, At: end, Done: isDone}
				b := book(t, v)
				n := b.Retire(c.safe, nil)
				if c.gone && (isDone || end == (api.Ts{})) {
					if n != 1 {
						t.Errorf("Retire(%v) of %v: %d", c.safe, v, n)
					}
					nothing(t, b)
				} else {
					if n != 0 {
						t.Errorf("Retire(%v) of %v: %d", c.safe, v, n)
					}
					has(t, b, v)
				}
			}
		}
	}
}

// TestRetireAtTheEnds: no safe stamp is so low that a verdict goes whose Start is none, but the next one; and the greatest Start stays at all right ones.
func TestRetireAtTheEnds(t *testing.T) {
	b := book(t, api.Verdict{By: one}, api.Verdict{By: two, Start: greatest})
	if n := b.Retire(api.Ts{}, nil); n != 0 {
		t.Error("Retire at none:", n)
	}
	has(t, b, api.Verdict{By: one}, api.Verdict{By: two, Start: greatest})
	if n := b.Retire(api.Ts{L: 1}, nil); n != 1 {
		t.Error("Retire at the next:", n)
	}
	if n := b.Retire(greatest, nil); n != 0 {
		t.Error("Retire at the greatest:", n)
	}
	has(t, b, api.Verdict{By: two, Start: greatest})
}

func TestRetireKeep(t *testing.T) {
	l := verdicts{undone(one, 5), done(committed(two, 6, 9, 3)), undone(three, 7), committed(four, 5, 9, 1), done(committed(last, 5, 9, 1))}
	for _, c := range []struct {
		safe uint64
		keep txns
		left txns
	}{
		{100, nil, txns{four}},
		{100, txns{}, txns{four}},
		{100, txns{one}, txns{one, four}},
		{100, txns{two}, txns{two, four}},
		{100, txns{three}, txns{three, four}},
		{100, txns{four}, txns{four}},
		{100, txns{last}, txns{four, last}},
		{100, txns{one, three}, txns{one, three, four}},
		{100, txns{last, two}, txns{two, four, last}},
		{100, txns{one, two, three, four, last}, txns{one, two, three, four, last}},
		{100, txns{last, four, three, two, one}, txns{one, two, three, four, last}},
		{100, txns{two, two, two}, txns{two, four}},
		// Those that have no verdict, with a part in common with others.
		{100, txns{{}, {Client: 1}, {N: 1}, {Client: 1, N: 3}, {Client: math.MaxUint32}}, txns{four}},
		{100, txns{{}, {}, {}, {}, {}, {}, {}, {}, {}, {}, {}, {}, {}, {}, {}, {}, {}, three}, txns{three, four}},
		// Those that stay by their Start too.
		{7, nil, txns{three, four}},
		{7, txns{three}, txns{three, four}},
		{7, txns{one}, txns{one, three, four}},
		{6, nil, txns{two, three, four}},
		{6, txns{last, one}, txns{one, two, three, four, last}},
		{5, nil, txns{one, two, three, four, last}},
		{0, nil, txns{one, two, three, four, last}},
	} {
		b := book(t, l...)
		var left verdicts
		for _, v := range l {
			if slices.Contains(c.left, v.By) {
				left = append(left, v)
			}
		}
		if n := b.Retire(at(c.safe), c.keep); n != len(l)-len(left) {
			t.Errorf("Retire(%d, %v): %d", c.safe, c.keep, n)
		}
		has(t, b, left...)
		for _, v := range l {
			if _, ok := b.Of(v.By); ok != slices.Contains(c.left, v.By) {
				t.Errorf("Retire(%d, %v): %v is there: %t", c.safe, c.keep, v, ok)
			}
		}
		// Once more: all that could go is gone.
		if n := b.Retire(at(c.safe), c.keep); n != 0 {
			t.Errorf("second Retire(%d, %v): %d", c.safe, c.keep, n)
		}
		has(t, b, left...)
		// What was kept once is kept by no later call, unless that says so.
		b.Done(four)
		if n := b.Retire(at(100), nil); n != len(left) {
			t.Errorf("last Retire behind (%d, %v): %d of %d", c.safe, c.keep, n, len(left))
		}
		has(t, b)
	}
}

// TestRetireStepByStep: how many go tells those that went by this call alone.
func TestRetireStepByStep(t *testing.T) {
	b := verdict.New()
	for i := range uint32(30) {
		v := committed(api.Txn{N: i}, uint64(i), 50, 1)
		if i%3 == 0 {
			v = undone(api.Txn{N: i}, uint64(i))
		}
		v.Done = i%3 == 1
		if b.Set(v) != api.OK {
			t.Fatal("Set:", v)
		}
	}
	for i := range uint32(31) {
		want := 1
		if i == 0 || (i-1)%3 == 2 {
			want = 0
		}
		if n := b.Retire(at(uint64(i)), nil); n != want {
			t.Errorf("Retire(%d): %d, want %d", i, n, want)
		}
	}
	for i := uint32(2); i < 30; i += 3 {
		if !b.Done(api.Txn{N: i}) || b.Retire(at(uint64(i)), nil) != 0 || b.Retire(at(uint64(i)+1), nil) != 1 {
			t.Error("Retire behind Done:", i)
		}
	}
	nothing(t, b)
}

// TestSetBehindRetire: a transaction whose verdict is gone may have any other one, and nothing of what was is left.
func TestSetBehindRetire(t *testing.T) {
	for _, was := range rightVerdicts(one) {
		for _, v := range rightVerdicts(one) {
			b := book(t, was)
			b.Done(one)
			if n := b.Retire(beyond, nil); n != 1 {
				t.Fatalf("Retire of %v: %d", was, n)
			}
			for _, wrong := range wrongVerdicts(one)[:12] {
				if err := b.Set(wrong); err != api.ErrArg {
					t.Errorf("Set(%v) behind Retire: %d", wrong, err)
				}
			}
			if err := b.Set(v); err != api.OK {
				t.Errorf("Set(%v) behind Retire of %v: %d", v, was, err)
			}
			has(t, b, v)
		}
	}
}

// permutations answers all orders of l.
func permutations(l txns) []txns {
	if len(l) < 2 {
		return []txns{slices.Clone(l)}
	}
	var all []txns
	for i := range l {
		rest := slices.Delete(slices.Clone(l), i, i+1)
		for _, p := range permutations(rest) {
			all = append(all, append(txns{l[i]}, p...))
		}
	}
	return all
}

// TestAll: by Client and then N, whatever the order of setting, of Starts and of kinds.
func TestAll(t *testing.T) {
	for _, want := range []txns{
		{one, two, three, four},
		// The same Client, and other N; the other way round.
		{{}, {N: 1}, {N: 2}, {N: 10}, {N: math.MaxUint32}},
		{{N: 7}, {Client: 1, N: 7}, {Client: 2, N: 7}, {Client: 10, N: 7}, {Client: math.MaxUint32, N: 7}},
		// Where one falls the other rises.
		{{N: 4}, {Client: 1, N: 3}, {Client: 2, N: 2}, {Client: 3, N: 1}, {Client: 4}},
		{{Client: 1, N: math.MaxUint32}, {Client: 2}, {Client: 2, N: 1 << 31}, {Client: 1 << 31}, last},
		{{N: 1<<31 - 1}, {N: 1 << 31}, {Client: 1<<31 - 1, N: 5}, {Client: 1 << 31, N: 4}},
		{{Client: 1, N: 9}, {Client: 1, N: 10}, {Client: 9, N: 1}, {Client: 10, N: 0}, {Client: 10, N: 1}},
	} {
		for _, names := range permutations(want) {
			b := verdict.New()
			var all verdicts
			for i, by := range names {
				v := committed(by, uint64(i), uint64(9-i), 1)
				v.Done = i%2 == 0
				if i%3 == 0 {
					v = undone(by, uint64(i))
				}
				all = append(all, v)
				if b.Set(v) != api.OK {
					t.Fatal("Set:", v)
				}
			}
			for range 2 {
				got := b.All()
				if len(got) != len(want) {
					t.Fatalf("All of %v: %v", names, got)
				}
				for i, v := range got {
					if v.By != want[i] || !slices.Contains(all, v) {
						t.Fatalf("All of %v: %v", names, got)
					}
				}
			}
		}
	}
}

// TestMany: many verdicts, and as many that are kept, in an order that is not theirs.
func TestMany(t *testing.T) {
	const count = 100000
	b := verdict.New()
	var keep txns
	for i := range uint32(count) {
		by := api.Txn{Client: i * 7919 % 13, N: i * 7919 % count}
		if b.Set(undone(by, uint64(i%10))) != api.OK {
			t.Fatal("Set:", by)
		}
		if i%10 < 5 {
			keep = append(keep, by)
		}
	}
	slices.Reverse(keep)
	ordered := func(v, w api.Verdict) int {
		if v.By.Client < w.By.Client || v.By.Client == w.By.Client && v.By.N < w.By.N {
			return -1
		}
		return 1
	}
	if l := b.All(); len(l) != count || !slices.IsSortedFunc(l, ordered) {
		t.Error("All:", len(l))
	}
	if n := b.Retire(at(9), keep); n != count*4/10 {
		t.Error("Retire:", n)
	}
	if l := b.All(); len(l) != count*6/10 || !slices.IsSortedFunc(l, ordered) {
		t.Error("All:", len(l))
	}
	if n := b.Retire(at(10), nil); n != count*6/10 {
		t.Error("Retire:", n)
	}
	nothing(t, b)
}

// spoil writes over l and the room behind it.
func spoil(l verdicts) {
	whole := l[:cap(l)]
	for i := range whole {
		whole[i] = done(committed(four, 77, 78, 9))
	}
}

// TestMemoryOfAnswers: what is done with a list that was answered changes nothing in the book, and what is done in the book changes no such list.
func TestMemoryOfAnswers(t *testing.T) {
	b := book(t, full()...)
	for range 3 {
		l := b.All()
		spoil(l)
		has(t, b, full()...)
		_ = append(l[:1], undone(last, 1))
		has(t, b, full()...)
	}
	first, second := b.All(), b.All()
	spoil(first)
	if !slices.Equal(second, full()) {
		t.Error("two answers share memory:", second)
	}
	b.Done(two)
	b.Set(undone(four, 1))
	b.Set(undone(api.Txn{}, 1))
	if !slices.Equal(second, full()) {
		t.Error("what was done in the book shows in a list:", second)
	}
	b.Retire(greatest, nil)
	b.Set(undone(two, 1))
	if !slices.Equal(second, full()) {
		t.Error("what was done in the book shows in a list:", second)
	}
	has(t, b, undone(two, 1))
}

// TestMemoryOfArguments: what is handed in isn't changed, nor the room behind it, and isn't kept.
func TestMemoryOfArguments(t *testing.T) {
	b := book(t, full()...)
	names := txns{three, two, one, three, {}, last}
	if n := b.Retire(greatest, names[:1]); n != 1 || !slices.Equal(names, txns{three, two, one, three, {}, last}) {
		t.Error("Retire:", n, names)
	}
	has(t, b, full()[1:]...)
	for _, keep := range []txns{names[:4], names[:3], names[2:5], names} {
		if n := b.Retire(greatest, keep); n != 0 || !slices.Equal(names, txns{three, two, one, three, {}, last}) {
			t.Error("Retire:", n, names)
		}
	}
	has(t, b, full()[1:]...)
	for i := range names {
		names[i] = one
	}
	has(t, b, full()[1:]...)
	if n := b.Retire(greatest, nil); n != 1 {
		t.Error("what was kept by an earlier call:", n)
	}
	has(t, b, full()[1])
}

// TestAskingChangesNothing: all that is asked may be asked again.
func TestAskingChangesNothing(t *testing.T) {
	b, p := book(t, full()...), &plain{list: full()}
	for range 5 {
		alike(t, b, p, one, two, three, four, api.Txn{}, last)
	}
}

// action is a call that changes a book: what it answers.
type action func(teller) (api.Errno, bool, int)

// setting, finishing and retiring answer calls of Set, Done and Retire.
func setting(v api.Verdict) action {
	return func(x teller) (api.Errno, bool, int) { return x.Set(v), false, 0 }
}

func finishing(by api.Txn) action {
	return func(x teller) (api.Errno, bool, int) { return 0, x.Done(by), 0 }
}

func retiring(safe api.Ts, keep ...api.Txn) action {
	return func(x teller) (api.Errno, bool, int) { return 0, false, x.Retire(safe, keep) }
}

// do makes the call of both, which must answer the same.
func do(t *testing.T, x, p teller, call action) {
	t.Helper()
	err, ok, n := call(x)
	wantErr, wantOk, want := call(p)
	if err != wantErr || ok != wantOk || n != want {
		t.Fatalf("%d %t %d, want %d %t %d", err, ok, n, wantErr, wantOk, want)
	}
}

// TestEveryCall makes all sequences of up to five out of some calls.
func TestEveryCall(t *testing.T) {
	calls := []action{
		setting(undone(one, 1)), setting(undone(one, 2)), setting(committed(one, 1, 3, 1)), setting(done(committed(one, 1, 3, 1))),
		setting(committed(one, 1, 3, 2)), setting(api.Verdict{By: one, Start: at(1), Parts: 1}),
		setting(undone(two, 2)), setting(committed(two, 2, 2, 0)), setting(done(committed(two, 1, 3, 1))), setting(committed(two, 2, maxPhys+1, 0)),
		finishing(one), finishing(two),
		retiring(at(1)), retiring(at(2)), retiring(at(2), one), retiring(at(3)), retiring(at(3), one, two),
	}
	for length, all := 0, 1; length <= 5; length, all = length+1, all*len(calls) {
		for n := range all {
			x, p := verdict.New(), &plain{}
			for i, rest := 0, n; i < length; i, rest = i+1, rest/len(calls) {
				do(t, x, p, calls[rest%len(calls)])
			}
			alike(t, x, p, one, two, three)
		}
	}
}

// call answers a call by chance that changes a book.
func call(r *rand.Rand) action {
	switch r.Intn(8) {
	case 0:
		return retiring(some(r), names(r)...)
	case 1, 2:
		return finishing(name(r))
	}
	return setting(chance(r))
}

// TestByChance makes calls of all kinds.
func TestByChance(t *testing.T) {
	for seed := range 400 {
		r := rand.New(rand.NewSource(int64(seed)))
		x, p := verdict.New(), &plain{}
		for range 200 {
			do(t, x, p, call(r))
			alike(t, x, p, name(r), name(r))
		}
	}
}

// P11.2: a transaction has one verdict at most, and it stays as it is (but for Done) till it is retired; a committed one is never retired before it is Done.

// single asks whether no transaction has two verdicts in b, and whether Of tells what All tells.
func single(t *testing.T, b *verdict.Book) {
	t.Helper()
	seen := map[api.Txn]int{}
	for _, v := range b.All() {
		seen[v.By]++
		if is, ok := b.Of(v.By); seen[v.By] > 1 || is != v || !ok {
			t.Fatalf("%d verdicts of %v: %v, but %v %t", seen[v.By], v.By, v, is, ok)
		}
	}
}

// TestStays: each verdict that was there ahead of a call is there behind it, unless that retired it, which it may only if it was undone or Done.
func TestStays(t *testing.T) {
	for seed := range 300 {
		r := rand.New(rand.NewSource(int64(1000 + seed)))
		b := verdict.New()
		for range 200 {
			before := b.All()
			retired, finished, isFinished := 0, name(r), false
			switch r.Intn(8) {
			case 0:
				retired = b.Retire(some(r), names(r))
			case 1:
				isFinished = b.Done(finished)
			default:
				b.Set(chance(r))
			}
			gone := 0
			for _, was := range before {
				is, ok := b.Of(was.By)
				want := was
				if isFinished && was.By == finished {
					want.Done = true
				}
				if !ok {
					gone++
				} else if is != want {
					t.Fatalf("seed %d: %v became %v", seed, was, is)
				}
				if !ok && was.At != (api.Ts{}) && !was.Done {
					t.Fatalf("seed %d: %v went before it was Done", seed, was)
				}
			}
			if gone != retired {
				t.Fatalf("seed %d: %d gone, %d retired", seed, gone, retired)
			}
			single(t, b)
		}
	}
}

// TestCommittedWaits: whatever is called but Done, a committed one stays as it is; behind Done it goes.
func TestCommittedWaits(t *testing.T) {
	for _, v := range rightVerdicts(one) {
		if v.At == (api.Ts{}) || v.Done {
			continue
		}
		r := rand.New(rand.NewSource(5))
		b := book(t, v)
		for range 200 {
			other := chance(r)
			other.By = one
			b.Set(other)
			b.Set(done(v))
			b.Set(undone(one, 0))
			b.Done(two)
			b.Retire(some(r), names(r))
			if n := b.Retire(beyond, nil); n != 0 {
				t.Fatalf("%v: %d retired", v, n)
			}
			has(t, b, v)
		}
		if !b.Done(one) || b.Retire(v.Start, nil) != 0 || b.Retire(beyond, txns{one}) != 0 {
			t.Errorf("%v: Done, and Retire that keeps it", v)
		}
		has(t, b, done(v))
		if n := b.Retire(beyond, nil); n != 1 {
			t.Errorf("%v: %d retired behind Done", v, n)
		}
		nothing(t, b)
	}
}
