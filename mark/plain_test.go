package mark_test

import (
	"math"
	"math/rand"
	"slices"
	"testing"

	"dovecote/api"
	"dovecote/mark"
)

// The limits as the chapter of stamps says them.
const (
	maxPhys  = uint64(281474976710656)
	maxLogic = uint32(4095)
)

type stamps = []api.Ts

var (
	zero     = api.Ts{}
	greatest = api.Ts{P: maxPhys, L: maxLogic}
)

// at answers the stamp of two parts.
func at(p uint64, l uint32) api.Ts { return api.Ts{P: p, L: l} }

// wrongs answers stamps that aren't right, by either part and by both, those just beyond the limits among them.
func wrongs() stamps {
	return stamps{
		at(0, maxLogic+1), at(1, maxLogic+1), at(5, maxLogic+1), at(5, 1<<31), at(0, math.MaxUint32), at(4, 1<<16),
		at(maxPhys, maxLogic+1), at(maxPhys+1, 0), at(maxPhys+1, 1), at(maxPhys+1, maxLogic), at(maxPhys+1, maxLogic+1),
		at(maxPhys-1, maxLogic+1), at(1<<49, 0), at(1<<52, 0), at(1<<63, 0), at(math.MaxUint64, 0), at(math.MaxUint64, math.MaxUint32),
	}
}

// rights answers right stamps in their order.
func rights() stamps {
	return stamps{
		zero, at(0, 1), at(0, 4094), at(0, maxLogic), at(1, 0), at(4, maxLogic), at(5, 0), at(5, 1), at(5, 2), at(5, maxLogic), at(6, 0),
		at(1<<32-1, 7), at(1<<32, 0), at(1<<47, 3), at(maxPhys-1, maxLogic), at(maxPhys, 0), at(maxPhys, 1), at(maxPhys, maxLogic-1), greatest,
	}
}

// line answers the place of a right stamp among all right ones.
func line(t api.Ts) uint64 { return t.P*4096 + uint64(t.L) }

// right tells whether t's parts are within their limits.
func right(t api.Ts) bool { return t.P <= maxPhys && t.L <= maxLogic }

// places answers the places of the right stamps of all lists, from the least up.
func places(lists ...stamps) []uint64 {
	var l []uint64
	for _, t := range slices.Concat(lists...) {
		if right(t) {
			l = append(l, line(t))
		}
	}
	slices.Sort(l)
	return l
}

// plainLeast is the document's words a second time: the first place of all.
func plainLeast(l stamps) (api.Ts, bool) {
	all := places(l)
	if len(all) == 0 {
		return zero, false
	}
	return at(all[0]/4096, uint32(all[0]%4096)), true
}

// plainSafe is the document's words a second time, case by case.
func plainSafe(old api.Ts, active, clocks stamps) api.Ts {
	least, told := plainLeast(slices.Concat(active, clocks))
	switch {
	case !told && right(old):
		return old
	case !told:
		return zero
	case right(old) && line(least) < line(old):
		return old
	}
	return least
}

// isLeast fails if Least answers other than want, or anything beside the stamps of l: twice, as it keeps nothing.
func isLeast(t *testing.T, l stamps, want api.Ts, found bool) {
	t.Helper()
	given := slices.Clone(l)
	for range 2 {
		if got, ok := mark.Least(l); got != want || ok != found {
			t.Fatalf("Least(%v) = %v, %v, want %v, %v", given, got, ok, want, found)
		}
	}
	if !slices.Equal(l, given) {
		t.Fatalf("Least has changed %v to %v", given, l)
	}
}

// isSafe fails if Safe answers other than want, twice, or has changed a list, or if P18.2 is broken.
func isSafe(t *testing.T, old api.Ts, active, clocks stamps, want api.Ts) {
	t.Helper()
	givenActive, givenClocks := slices.Clone(active), slices.Clone(clocks)
	for range 2 {
		got := mark.Safe(old, active, clocks)
		if got != want {
			t.Fatalf("Safe(%v, %v, %v) = %v, want %v", old, givenActive, givenClocks, got, want)
		}
		holds(t, old, givenActive, givenClocks, got)
	}
	if !slices.Equal(active, givenActive) || !slices.Equal(clocks, givenClocks) {
		t.Fatalf("Safe has changed %v and %v to %v and %v", givenActive, givenClocks, active, clocks)
	}
}

// holds fails if got goes back behind old, or has risen above a right stamp of a list, or with none told at all.
func holds(t *testing.T, old api.Ts, active, clocks stamps, got api.Ts) {
	t.Helper()
	if !right(got) {
		t.Fatalf("Safe(%v, %v, %v) = %v: not right", old, active, clocks, got)
	}
	from := uint64(0)
	if right(old) {
		from = line(old)
	}
	if line(got) < from {
		t.Fatalf("Safe(%v, %v, %v) = %v: gone back", old, active, clocks, got)
	}
	all := places(active, clocks)
	if line(got) > from && (len(all) == 0 || line(got) > all[0]) {
		t.Fatalf("Safe(%v, %v, %v) = %v: risen too far", old, active, clocks, got)
	}
}

// asPlain fails if Least or Safe answer other than the plain ones.
func asPlain(t *testing.T, old api.Ts, active, clocks stamps) {
	t.Helper()
	for _, l := range []stamps{active, clocks} {
		least, found := plainLeast(l)
		isLeast(t, l, least, found)
	}
	isSafe(t, old, active, clocks, plainSafe(old, active, clocks))
}

// orders answers l in every order.
func orders(l stamps) []stamps {
	if len(l) == 0 {
		return []stamps{nil}
	}
	var all []stamps
	for _, rest := range orders(l[1:]) {
		for i := range len(rest) + 1 {
			all = append(all, slices.Insert(slices.Clone(rest), i, l[0]))
		}
	}
	return all
}

// lists answers every list of at most n of the stamps of l, with the same ones again.
func lists(l stamps, n int) []stamps {
	all := []stamps{nil}
	from := 0
	for range n {
		to := len(all)
		for _, shorter := range all[from:to] {
			for _, t := range l {
				all = append(all, append(slices.Clone(shorter), t))
			}
		}
		from = to
	}
	return all
}

// chanceStamp answers a stamp by chance: of few ones, about the limits, or any.
func chanceStamp(r *rand.Rand) api.Ts {
	switch r.Intn(8) {
	case 0:
		return wrongs()[r.Intn(len(wrongs()))]
	case 1:
		return rights()[r.Intn(len(rights()))]
	case 2:
		return at(r.Uint64(), r.Uint32())
	case 3:
		return at(maxPhys-2+uint64(r.Intn(5)), maxLogic-2+uint32(r.Intn(5)))
	case 4:
		return at(uint64(r.Int63n(int64(maxPhys)+1)), uint32(r.Intn(4096)))
	}
	return at(uint64(r.Intn(6)), uint32(r.Intn(6)))
}

// chanceList answers up to n stamps by chance, some the same ones again.
func chanceList(r *rand.Rand, n int) stamps {
	var l stamps
	for range r.Intn(n + 1) {
		t := chanceStamp(r)
		if len(l) > 0 && r.Intn(5) == 0 {
			t = l[r.Intn(len(l))]
		}
		l = append(l, t)
	}
	return l
}

// reversed answers l from its end, in new memory.
func reversed(l stamps) stamps {
	l = slices.Clone(l)
	slices.Reverse(l)
	return l
}
