package mark_test

import (
	"math/rand"
	"slices"
	"sync"
	"testing"

	"dovecote/api"
	"dovecote/mark"
)

// P18.1: Least

func TestLeastOfNone(t *testing.T) {
	isLeast(t, nil, zero, false)
	isLeast(t, stamps{}, zero, false)
	isLeast(t, make(stamps, 0, 5), zero, false)
}

func TestLeastOfOne(t *testing.T) {
	for _, s := range rights() {
		isLeast(t, stamps{s}, s, true)
	}
	for _, s := range wrongs() {
		isLeast(t, stamps{s}, zero, false)
	}
}

func TestLeastOfSeveral(t *testing.T) {
	for _, c := range []struct {
		l    stamps
		want api.Ts
	}{
		{stamps{at(9, 0), at(5, 1), at(7, 0)}, at(5, 1)},
		{stamps{at(5, 4095), at(6, 0)}, at(5, 4095)},
		{stamps{at(7, 1), at(6, 4095)}, at(6, 4095)},
		{stamps{at(5, 3), at(5, 1), at(5, 2)}, at(5, 1)},
		{stamps{at(5, 10), at(5, 9)}, at(5, 9)},
		{stamps{at(10, 0), at(9, 0)}, at(9, 0)},
		{stamps{at(1<<32, 0), at(1, 0)}, at(1, 0)},
		{stamps{at(1<<32, 0), at(1<<32-1, 4095)}, at(1<<32-1, 4095)},
		{stamps{greatest, at(maxPhys, 4094)}, at(maxPhys, 4094)},
		{stamps{greatest, at(maxPhys-1, 4095)}, at(maxPhys-1, 4095)},
		{stamps{greatest, greatest, greatest}, greatest},
		{stamps{at(5, 1), at(5, 1), at(9, 0), at(5, 1), at(9, 0)}, at(5, 1)},
		{stamps{at(0, 1), at(1, 0)}, at(0, 1)},
	} {
		isLeast(t, c.l, c.want, true)
		isLeast(t, reversed(c.l), c.want, true)
	}
}

// TestLeastOfZero: the zero stamp is right, and the least of all.
func TestLeastOfZero(t *testing.T) {
	isLeast(t, stamps{zero}, zero, true)
	isLeast(t, stamps{zero, zero}, zero, true)
	for _, s := range append(rights(), wrongs()...) {
		isLeast(t, stamps{zero, s}, zero, true)
		isLeast(t, stamps{s, zero}, zero, true)
		isLeast(t, stamps{s, zero, at(0, 1)}, zero, true)
	}
}

// TestLeastPassesWrongOnes: a stamp that isn't right is none, even if it is below all others.
func TestLeastPassesWrongOnes(t *testing.T) {
	isLeast(t, wrongs(), zero, false)
	isLeast(t, reversed(wrongs()), zero, false)
	isLeast(t, stamps{at(0, 4096), at(5, 0)}, at(5, 0), true)
	isLeast(t, stamps{at(5, 0), at(0, 4096)}, at(5, 0), true)
	isLeast(t, stamps{at(4, 4096), at(5, 0), at(1, 4096)}, at(5, 0), true)
	isLeast(t, stamps{at(maxPhys, 4096), greatest, at(maxPhys+1, 0)}, greatest, true)
	for _, s := range rights() {
		for i := range len(wrongs()) + 1 {
			isLeast(t, slices.Insert(wrongs(), i, s), s, true)
		}
		for _, w := range wrongs() {
			isLeast(t, stamps{w, s}, s, true)
			isLeast(t, stamps{s, w}, s, true)
			isLeast(t, stamps{w, s, w, greatest, w}, s, true)
		}
	}
}

// TestLeastInEveryOrder: the order of a list plays no part.
func TestLeastInEveryOrder(t *testing.T) {
	for _, c := range []struct {
		l     stamps
		want  api.Ts
		found bool
	}{
		{stamps{at(3, 0), at(5, 0), at(5, 1), at(7, 9), greatest, at(0, 4096)}, at(3, 0), true},
		{stamps{zero, at(0, 1), at(1, 0), at(1, 0), at(2, 4095), at(maxPhys+1, 0)}, zero, true},
		{stamps{at(5, 4095), at(5, 4094), at(5, 0), at(5, 4096), at(5, 7), at(5, 0)}, at(5, 0), true},
		{stamps{greatest, at(maxPhys, 4096), at(maxPhys+1, 0), at(0, 1<<31), at(1<<63, 0)}, greatest, true},
		{stamps{at(maxPhys, 4096), at(maxPhys+1, 0), at(maxPhys+1, 4095), at(0, 4096), at(1, 4096)}, zero, false},
	} {
		for _, l := range orders(c.l) {
			isLeast(t, l, c.want, c.found)
		}
	}
}

// TestLeastAnywhere: of a long list, wherever the least one is.
func TestLeastAnywhere(t *testing.T) {
	l := make(stamps, 3000)
	for i := range l {
		l[i] = at(900+uint64(i%7), uint32(i%5000))
	}
	for i := range l {
		was := l[i]
		l[i] = at(899, 4095)
		if got, ok := mark.Least(l); got != l[i] || !ok {
			t.Fatalf("the least at %d: %v, %v", i, got, ok)
		}
		if got := mark.Safe(at(3, 0), nil, l); got != l[i] {
			t.Fatalf("the least at %d: Safe %v", i, got)
		}
		l[i] = was
	}
}

// P18.1: Safe

func TestSafe(t *testing.T) {
	for _, c := range []struct {
		old            api.Ts
		active, clocks stamps
		want           api.Ts
	}{
		{at(3, 0), stamps{at(9, 0), at(5, 1)}, stamps{at(7, 0)}, at(5, 1)},
		{at(3, 0), stamps{at(7, 0)}, stamps{at(9, 0), at(5, 1)}, at(5, 1)},
		{at(6, 0), stamps{at(5, 0)}, nil, at(6, 0)},
		{at(6, 0), nil, stamps{at(5, 0)}, at(6, 0)},
		{at(6, 0), stamps{at(5, 0)}, stamps{at(7, 0)}, at(6, 0)},
		{at(6, 0), stamps{at(7, 0)}, stamps{at(5, 0)}, at(6, 0)},
		{at(6, 0), stamps{at(6, 0)}, stamps{at(7, 0)}, at(6, 0)},
		{at(6, 0), stamps{at(7, 0)}, stamps{at(7, 0)}, at(7, 0)},
		{at(6, 0), stamps{at(6, 1)}, stamps{at(6, 2)}, at(6, 1)},
		{at(6, 2), stamps{at(6, 1)}, stamps{at(6, 3)}, at(6, 2)},
		{at(6, 0), stamps{at(5, 4095)}, nil, at(6, 0)},
		{at(5, 4095), stamps{at(6, 0)}, nil, at(6, 0)},
		{zero, stamps{at(4, 4)}, stamps{at(4, 5)}, at(4, 4)},
		{zero, stamps{at(4, 5)}, stamps{at(4, 4)}, at(4, 4)},
		{zero, stamps{greatest}, stamps{greatest}, greatest},
		{greatest, stamps{zero}, stamps{at(1, 0)}, greatest},
		{greatest, stamps{greatest}, nil, greatest},
		{at(maxPhys, 4094), nil, stamps{greatest, greatest}, greatest},
	} {
		isSafe(t, c.old, c.active, c.clocks, c.want)
		isSafe(t, c.old, reversed(c.active), reversed(c.clocks), c.want)
	}
}

// TestSafeOfNone: where none is told, old is answered, or the zero stamp if that isn't right.
func TestSafeOfNone(t *testing.T) {
	none := []stamps{nil, {}, make(stamps, 0, 4), {at(0, 4096)}, {at(maxPhys+1, 0), at(maxPhys, 4096)}, wrongs()}
	for _, active := range none {
		for _, clocks := range none {
			for _, old := range rights() {
				isSafe(t, old, active, clocks, old)
			}
			for _, old := range wrongs() {
				isSafe(t, old, active, clocks, zero)
			}
		}
	}
}

// TestSafeOfOneList: active without clocks, and clocks without active, whatever the empty one is.
func TestSafeOfOneList(t *testing.T) {
	l := stamps{at(9, 0), at(0, 4096), at(5, 1), at(5, 2)}
	for _, c := range []struct{ old, want api.Ts }{
		{at(3, 0), at(5, 1)},
		{at(5, 0), at(5, 1)},
		{at(5, 1), at(5, 1)},
		{at(5, 2), at(5, 2)},
		{at(7, 0), at(7, 0)},
		{at(10, 0), at(10, 0)},
		{at(5, 4096), at(5, 1)},
		{at(maxPhys+1, 0), at(5, 1)},
	} {
		for _, none := range []stamps{nil, {}, wrongs()} {
			isSafe(t, c.old, l, none, c.want)
			isSafe(t, c.old, none, l, c.want)
		}
	}
}

// TestSafeOfWrongOld: an old that isn't right holds nothing back, however great or small its parts are.
func TestSafeOfWrongOld(t *testing.T) {
	for _, old := range wrongs() {
		for _, s := range rights() {
			isSafe(t, old, stamps{s}, nil, s)
			isSafe(t, old, nil, stamps{s}, s)
			isSafe(t, old, stamps{s, greatest}, stamps{greatest, s}, s)
			isSafe(t, old, stamps{greatest}, stamps{greatest, s}, s)
		}
	}
}

// TestSafeOfZero: the zero stamp is told as any other one, and holds the mark where it is.
func TestSafeOfZero(t *testing.T) {
	for _, old := range rights() {
		isSafe(t, old, stamps{zero}, nil, old)
		isSafe(t, old, nil, stamps{zero}, old)
		isSafe(t, old, stamps{zero}, stamps{greatest}, old)
		isSafe(t, old, stamps{greatest}, stamps{greatest, zero}, old)
	}
	for _, old := range wrongs() {
		isSafe(t, old, stamps{zero}, stamps{greatest}, zero)
		isSafe(t, old, stamps{greatest}, stamps{zero}, zero)
	}
}

// TestSafePassesWrongOnes: a stamp that isn't right holds nothing back, and lets nothing rise.
func TestSafePassesWrongOnes(t *testing.T) {
	for _, w := range wrongs() {
		isSafe(t, at(3, 0), stamps{w, at(5, 0)}, stamps{at(7, 0), w}, at(5, 0))
		isSafe(t, at(3, 0), stamps{at(7, 0), w}, stamps{w, at(5, 0)}, at(5, 0))
		isSafe(t, at(3, 0), stamps{w}, stamps{at(5, 0)}, at(5, 0))
		isSafe(t, at(3, 0), stamps{at(5, 0)}, stamps{w}, at(5, 0))
		isSafe(t, at(3, 0), stamps{w}, stamps{w}, at(3, 0))
		isSafe(t, at(6, 0), stamps{w, at(5, 0)}, stamps{w}, at(6, 0))
		isSafe(t, w, stamps{w}, stamps{w, w}, zero)
		isSafe(t, w, stamps{w, greatest}, stamps{w, w}, greatest)
	}
}

// TestSafeOfPairs: every old, with every stamp of either list, of all that are at the limits and about them.
func TestSafeOfPairs(t *testing.T) {
	all := append(rights(), wrongs()...)
	for _, old := range all {
		for _, a := range all {
			for _, c := range all {
				asPlain(t, old, stamps{a}, stamps{c})
			}
		}
	}
}

// TestSafeInEveryOrder: neither the order of a list plays a part, nor which of the two a stamp is told by.
func TestSafeInEveryOrder(t *testing.T) {
	for _, l := range orders(stamps{at(3, 7), at(5, 0), at(5, 1), at(0, 4096), at(9, 0)}) {
		for cut := range len(l) + 1 {
			isSafe(t, zero, l[:cut], l[cut:], at(3, 7))
			isSafe(t, at(3, 6), l[:cut], l[cut:], at(3, 7))
			isSafe(t, at(3, 7), l[:cut], l[cut:], at(3, 7))
			isSafe(t, at(3, 8), l[:cut], l[cut:], at(3, 8))
			isSafe(t, at(9, 1), l[:cut], l[cut:], at(9, 1))
			isSafe(t, at(3, 4096), l[:cut], l[cut:], at(3, 7))
		}
	}
}

// TestSafeOfOneListTwice: one list may be both.
func TestSafeOfOneListTwice(t *testing.T) {
	l := stamps{at(8, 0), at(0, 4096), at(5, 1), at(8, 0)}
	isSafe(t, at(3, 0), l, l, at(5, 1))
	isSafe(t, at(6, 0), l, l, at(6, 0))
	isSafe(t, at(3, 0), l[:2], l, at(5, 1))
	isSafe(t, at(3, 0), l[:2], l[:1], at(8, 0))
}

// TestAllShortLists: all lists of a few stamps, which differ by P, by L and by whether they are right, held against the plain answers and against the chapter's words: the greatest of all stamps that is above none of them.
func TestAllShortLists(t *testing.T) {
	few := stamps{zero, at(0, 1), at(1, 0), at(1, 4095), at(2, 0), at(0, 4096), at(maxPhys+1, 0)}
	short := lists(few, 2)
	for _, active := range short {
		for _, clocks := range short {
			for _, old := range few {
				asPlain(t, old, active, clocks)
				if want, told := greatestAboveNone(few, active, clocks); told && (!right(old) || line(old) <= line(want)) {
					isSafe(t, old, active, clocks, want)
				}
			}
		}
	}
	for _, l := range lists(few, 5) {
		least, found := plainLeast(l)
		isLeast(t, l, least, found)
	}
}

// greatestAboveNone looks through the right stamps of all for the greatest that is above no right one of the lists; false, if they have none.
func greatestAboveNone(all, active, clocks stamps) (api.Ts, bool) {
	told := places(active, clocks)
	most, found := zero, false
	for _, s := range all {
		above := func(n uint64) bool { return right(s) && line(s) > n }
		if right(s) && !slices.ContainsFunc(told, above) && line(s) >= line(most) {
			most, found = s, true
		}
	}
	return most, found && len(told) > 0
}

// TestByChance holds both calls against the plain ones, also of the same lists in another order.
func TestByChance(t *testing.T) {
	r := rand.New(rand.NewSource(18))
	for range 30000 {
		old, active, clocks := chanceStamp(r), chanceList(r, 8), chanceList(r, 8)
		asPlain(t, old, active, clocks)
		want := mark.Safe(old, active, clocks)
		shuffle(r, active)
		shuffle(r, clocks)
		isSafe(t, old, active, clocks, want)
		isSafe(t, old, clocks, active, want)
		isSafe(t, old, slices.Concat(clocks, active), nil, want)
	}
	for range 30 {
		asPlain(t, chanceStamp(r), chanceList(r, 20000), chanceList(r, 20000))
	}
}

// shuffle lays l in another order, by chance.
func shuffle(r *rand.Rand, l stamps) {
	r.Shuffle(len(l), func(i, j int) { l[i], l[j] = l[j], l[i] })
}

// P18.2

// TestSafeOfSafe: told the same again, or less, it stays; told more, it rises no further than that.
func TestSafeOfSafe(t *testing.T) {
	active, clocks := stamps{at(9, 0), at(5, 1)}, stamps{at(7, 0)}
	safe := mark.Safe(at(3, 0), active, clocks)
	isSafe(t, safe, active, clocks, at(5, 1))
	isSafe(t, safe, nil, nil, at(5, 1))
	isSafe(t, safe, wrongs(), wrongs(), at(5, 1))
	isSafe(t, safe, stamps{at(4, 0)}, clocks, at(5, 1))
	isSafe(t, safe, active, stamps{zero}, at(5, 1))
	isSafe(t, safe, active[:1], clocks, at(7, 0))
	isSafe(t, at(7, 0), active[:1], nil, at(9, 0))
	isSafe(t, at(9, 0), active, clocks, at(9, 0))
}

// TestSafeNeverGoesBack: a mark that is told lists by chance, again and again, in the end up to the greatest stamp.
func TestSafeNeverGoesBack(t *testing.T) {
	r := rand.New(rand.NewSource(182))
	for range 300 {
		safe := zero
		for now := range uint64(100) {
			active, clocks := laterThan(r, now), laterThan(r, now)
			next := mark.Safe(safe, active, clocks)
			holds(t, safe, active, clocks, next)
			isSafe(t, next, active, clocks, next)
			isSafe(t, next, nil, nil, next)
			safe = next
		}
		isSafe(t, safe, stamps{greatest}, nil, greatest)
		isSafe(t, greatest, laterThan(r, 0), laterThan(r, 0), greatest)
	}
}

// laterThan answers a list by chance of stamps about now, now and then below it, and of some that aren't right.
func laterThan(r *rand.Rand, now uint64) stamps {
	var l stamps
	for range r.Intn(5) {
		s := at(now+uint64(r.Intn(12)), uint32(r.Intn(4100)))
		switch r.Intn(10) {
		case 0:
			s.P -= min(s.P, uint64(r.Intn(30)))
		case 1:
			s = chanceStamp(r)
		}
		l = append(l, s)
	}
	return l
}

// Rules of the whole

// TestRoomBehindLists: what stands behind a list's end in its memory is neither told nor changed.
func TestRoomBehindLists(t *testing.T) {
	room := stamps{at(9, 0), at(7, 0), at(0, 4096), at(1, 0), zero, at(2, 0), at(8, 0), at(6, 5), zero, at(1, 1)}
	given := slices.Clone(room)
	isLeast(t, room[:0], zero, false)
	isLeast(t, room[:3], at(7, 0), true)
	isSafe(t, at(3, 0), room[:3], room[6:8], at(6, 5))
	isSafe(t, at(3, 0), room[6:8], room[:3], at(6, 5))
	isSafe(t, at(3, 0), room[:0], room[6:7], at(8, 0))
	isSafe(t, at(3, 0), room[:2], room[9:9], at(7, 0))
	isSafe(t, at(3, 0), room[:0], room[8:8], at(3, 0))
	isSafe(t, at(3, 4096), room[:2], room[6:8], at(6, 5))
	if !slices.Equal(room, given) {
		t.Fatalf("the room is %v now", room)
	}
}

// TestListsAreNotKept: a list that is changed behind a call is another list.
func TestListsAreNotKept(t *testing.T) {
	active, clocks := stamps{at(5, 0), at(9, 0)}, stamps{at(7, 0)}
	isSafe(t, at(3, 0), active, clocks, at(5, 0))
	active[0] = at(8, 0)
	isLeast(t, active, at(8, 0), true)
	isSafe(t, at(3, 0), active, clocks, at(7, 0))
	clocks[0] = at(4, 0)
	isSafe(t, at(3, 0), active, clocks, at(4, 0))
	isSafe(t, zero, nil, nil, zero)
	isLeast(t, nil, zero, false)
}

// TestSideBySide: calls at the same time, of the same lists, know nothing of each other.
func TestSideBySide(t *testing.T) {
	active, clocks := stamps{at(9, 0), at(5, 1), at(0, 4096)}, stamps{at(7, 0)}
	var all sync.WaitGroup
	for n := range uint64(8) {
		all.Go(func() {
			old := at(n, 0)
			want := plainSafe(old, active, clocks)
			for range 1000 {
				if got := mark.Safe(old, active, clocks); got != want {
					t.Errorf("Safe(%v) = %v, want %v", old, got, want)
				}
			}
		})
	}
	all.Wait()
}

// TestNonePanics: the calls end at all arguments.
func TestNonePanics(t *testing.T) {
	for _, l := range []stamps{nil, {}, wrongs(), rights(), make(stamps, 1<<20)} {
		mark.Least(l)
		for _, old := range append(rights(), wrongs()...) {
			mark.Safe(old, l, nil)
			mark.Safe(old, nil, l)
			mark.Safe(old, l, wrongs())
		}
	}
}
