package clock_test

import (
	"math"
	"math/big"
	"math/rand"
	"testing"

	"dovecote/api"
	"dovecote/clock"
	"dovecote/stamp"
)

const (
	maxPhys  = uint64(281474976710656)
	maxLogic = uint32(4095)
)

var (
	zero     = api.Ts{}
	greatest = api.Ts{P: maxPhys, L: maxLogic}
)

// readings answers physical parts at and about all limits, and some within.
func readings() []uint64 {
	l := []uint64{0, 1, 5, 6, 7, 1<<32 - 1, 1 << 32, 1 << 63}
	for _, near := range []uint64{64, 100, 164, 1000, 1064, 1100, 2000, maxPhys - 1000, maxPhys - 100, maxPhys - 64, maxPhys, maxPhys + 64, maxPhys + 100, maxPhys + 1000} {
		l = append(l, near-1, near, near+1)
	}
	for _, below := range []uint64{1001, 1000, 999, 101, 100, 99, 65, 64, 63, 1, 0} {
		l = append(l, math.MaxUint64-below)
	}
	return l
}

// stamps answers those of all readings, with logical parts at and about the limits.
func stamps() []api.Ts {
	var l []api.Ts
	for _, p := range readings() {
		for _, n := range []uint32{0, 3, 4094, maxLogic, maxLogic + 1, math.MaxUint32} {
			l = append(l, api.Ts{P: p, L: n})
		}
	}
	return l
}

// The document's words a second time, by numbers that can't wrap.

// whole answers n as a number without a limit.
func whole(n uint64) *big.Int { return new(big.Int).SetUint64(n) }

// exceeds tells whether a is more than most above b.
func exceeds(a, b uint64, most int64) bool {
	return new(big.Int).Sub(whole(a), whole(b)).Cmp(big.NewInt(most)) > 0
}

// right tells whether t's parts are within their limits.
func right(t api.Ts) bool { return t.P <= maxPhys && t.L <= maxLogic }

// line answers the place of a right stamp among all right ones.
func line(t api.Ts) uint64 { return t.P*4096 + uint64(t.L) }

// at answers the right stamp of that place.
func at(n uint64) api.Ts { return api.Ts{P: n / 4096, L: uint32(n % 4096)} }

func plainTick(now api.Ts, phys uint64) (api.Ts, api.Errno) {
	switch {
	case !right(now):
		return zero, api.ErrArg
	case phys > maxPhys, now == greatest:
		return zero, api.ErrOver
	}
	return at(max(line(now)+1, line(api.Ts{P: max(phys, now.P)}))), api.OK
}

func plainMerge(now api.Ts, phys uint64, t api.Ts) (api.Ts, api.Errno) {
	switch {
	case !right(now), !right(t):
		return zero, api.ErrArg
	case exceeds(t.P, phys, 1000):
		return zero, api.ErrSkew
	}
	return at(max(line(now), line(t))), api.OK
}

func plainBound(t api.Ts) api.Ts {
	switch {
	case !right(t):
		return zero
	case t.P >= 281474976710592:
		return greatest
	}
	return api.Ts{P: t.P + 64, L: 4095}
}

// checkTick holds Tick against the plain one, and against P6.2.
func checkTick(t *testing.T, now api.Ts, phys uint64) {
	t.Helper()
	got, err := clock.Tick(now, phys)
	want, wantErr := plainTick(now, phys)
	if got != want || err != wantErr {
		t.Errorf("Tick(%v, %d) = %v, %d, not %v, %d", now, phys, got, err, want, wantErr)
	}
	if err == api.OK && (!stamp.Right(got) || !stamp.Less(now, got)) {
		t.Errorf("Tick(%v, %d) = %v: not above what was shown", now, phys, got)
	}
}

// checkMerge holds Merge against the plain one, and against P6.2.
func checkMerge(t *testing.T, now api.Ts, phys uint64, u api.Ts) {
	t.Helper()
	got, err := clock.Merge(now, phys, u)
	want, wantErr := plainMerge(now, phys, u)
	if got != want || err != wantErr {
		t.Errorf("Merge(%v, %d, %v) = %v, %d, not %v, %d", now, phys, u, got, err, want, wantErr)
	}
	if err == api.OK && (!stamp.Right(got) || stamp.Less(got, now) || stamp.Less(got, u)) {
		t.Errorf("Merge(%v, %d, %v) = %v: below one of them", now, phys, u, got)
	}
}

// P6.1

func TestTick(t *testing.T) {
	for _, c := range []struct {
		now  api.Ts
		phys uint64
		want api.Ts
		err  api.Errno
	}{
		// A reading above what is shown.
		{api.Ts{P: 5, L: 3}, 7, api.Ts{P: 7}, api.OK},
		{api.Ts{P: 5, L: 3}, 6, api.Ts{P: 6}, api.OK},
		{api.Ts{P: 5, L: 4095}, 6, api.Ts{P: 6}, api.OK},
		{zero, 1, api.Ts{P: 1}, api.OK},
		{zero, maxPhys, api.Ts{P: maxPhys}, api.OK},
		{api.Ts{P: maxPhys - 1, L: maxLogic}, maxPhys, api.Ts{P: maxPhys}, api.OK},
		// At it.
		{api.Ts{P: 5, L: 3}, 5, api.Ts{P: 5, L: 4}, api.OK},
		{api.Ts{P: 5}, 5, api.Ts{P: 5, L: 1}, api.OK},
		{zero, 0, api.Ts{L: 1}, api.OK},
		{api.Ts{P: maxPhys}, maxPhys, api.Ts{P: maxPhys, L: 1}, api.OK},
		{api.Ts{P: maxPhys, L: 4094}, maxPhys, greatest, api.OK},
		// Below it.
		{api.Ts{P: 5, L: 3}, 4, api.Ts{P: 5, L: 4}, api.OK},
		{api.Ts{P: 5, L: 3}, 0, api.Ts{P: 5, L: 4}, api.OK},
		{api.Ts{P: maxPhys, L: 7}, 0, api.Ts{P: maxPhys, L: 8}, api.OK},
		// The greatest logical part.
		{api.Ts{P: 5, L: 4094}, 5, api.Ts{P: 5, L: 4095}, api.OK},
		{api.Ts{P: 5, L: 4095}, 5, api.Ts{P: 6}, api.OK},
		{api.Ts{P: 5, L: 4095}, 1, api.Ts{P: 6}, api.OK},
		{api.Ts{L: 4095}, 0, api.Ts{P: 1}, api.OK},
		{api.Ts{P: maxPhys - 1, L: maxLogic}, 0, api.Ts{P: maxPhys}, api.OK},
		// Nothing is left.
		{greatest, 0, zero, api.ErrOver},
		{greatest, maxPhys - 1, zero, api.ErrOver},
		{greatest, maxPhys, zero, api.ErrOver},
		{greatest, maxPhys + 1, zero, api.ErrOver},
		{greatest, math.MaxUint64, zero, api.ErrOver},
		// A reading above all.
		{zero, maxPhys + 1, zero, api.ErrOver},
		{api.Ts{P: 5, L: 3}, maxPhys + 1, zero, api.ErrOver},
		{api.Ts{P: 5, L: 3}, math.MaxUint64, zero, api.ErrOver},
		{api.Ts{P: 5, L: 4095}, 1 << 63, zero, api.ErrOver},
		{api.Ts{P: maxPhys, L: 3}, maxPhys + 1, zero, api.ErrOver},
		// What isn't right, by P, by L, by both; also beside a reading above all.
		{api.Ts{P: maxPhys + 1}, 7, zero, api.ErrArg},
		{api.Ts{P: maxPhys + 1, L: maxLogic}, maxPhys, zero, api.ErrArg},
		{api.Ts{P: math.MaxUint64}, 7, zero, api.ErrArg},
		{api.Ts{P: 5, L: maxLogic + 1}, 7, zero, api.ErrArg},
		{api.Ts{P: 5, L: maxLogic + 1}, 5, zero, api.ErrArg},
		{api.Ts{P: 5, L: math.MaxUint32}, 0, zero, api.ErrArg},
		{api.Ts{P: maxPhys, L: maxLogic + 1}, maxPhys, zero, api.ErrArg},
		{api.Ts{P: maxPhys + 1, L: maxLogic + 1}, 7, zero, api.ErrArg},
		{api.Ts{P: math.MaxUint64, L: math.MaxUint32}, 0, zero, api.ErrArg},
		{api.Ts{P: maxPhys + 1}, maxPhys + 1, zero, api.ErrArg},
		{api.Ts{P: maxPhys + 1}, maxPhys + 2, zero, api.ErrArg},
		{api.Ts{P: 5, L: maxLogic + 1}, maxPhys + 1, zero, api.ErrArg},
		{api.Ts{P: math.MaxUint64, L: math.MaxUint32}, math.MaxUint64, zero, api.ErrArg},
	} {
		if got, err := clock.Tick(c.now, c.phys); got != c.want || err != c.err {
			t.Errorf("Tick(%v, %d) = %v, %d, not %v, %d", c.now, c.phys, got, err, c.want, c.err)
		}
	}
}

func TestMerge(t *testing.T) {
	now := api.Ts{P: 5, L: 3}
	for _, c := range []struct {
		now  api.Ts
		phys uint64
		t    api.Ts
		want api.Ts
		err  api.Errno
	}{
		// now below t, at it, above it: by P, by L alone, by P against L.
		{now, 9, api.Ts{P: 8, L: 1}, api.Ts{P: 8, L: 1}, api.OK},
		{now, 9, api.Ts{P: 6}, api.Ts{P: 6}, api.OK},
		{now, 9, api.Ts{P: 5, L: 4}, api.Ts{P: 5, L: 4}, api.OK},
		{now, 9, now, now, api.OK},
		{now, 9, api.Ts{P: 5, L: 2}, now, api.OK},
		{now, 9, api.Ts{P: 4, L: 4095}, now, api.OK},
		{now, 9, zero, now, api.OK},
		{zero, 0, zero, zero, api.OK},
		{zero, 0, api.Ts{L: 1}, api.Ts{L: 1}, api.OK},
		{greatest, 0, zero, greatest, api.OK},
		{zero, maxPhys, greatest, greatest, api.OK},
		{greatest, maxPhys, greatest, greatest, api.OK},
		// The reading alone doesn't move the clock.
		{now, 900, api.Ts{P: 5, L: 4}, api.Ts{P: 5, L: 4}, api.OK},
		{now, maxPhys, zero, now, api.OK},
		{now, maxPhys + 1, api.Ts{P: 8, L: 1}, api.Ts{P: 8, L: 1}, api.OK},
		// Just as far ahead as may be, and one more.
		{now, 9, api.Ts{P: 1009}, api.Ts{P: 1009}, api.OK},
		{now, 9, api.Ts{P: 1009, L: 4095}, api.Ts{P: 1009, L: 4095}, api.OK},
		{now, 9, api.Ts{P: 1010}, zero, api.ErrSkew},
		{now, 9, greatest, zero, api.ErrSkew},
		{zero, 0, api.Ts{P: 1000}, api.Ts{P: 1000}, api.OK},
		{zero, 0, api.Ts{P: 1001}, zero, api.ErrSkew},
		{zero, maxPhys - 1000, greatest, greatest, api.OK},
		{zero, maxPhys - 1001, greatest, zero, api.ErrSkew},
		// It is t that may not be too far ahead, though it be below now.
		{greatest, 9, api.Ts{P: 1010}, zero, api.ErrSkew},
		{api.Ts{P: 1010}, 9, api.Ts{P: 1010}, zero, api.ErrSkew},
		{api.Ts{P: 5000}, 9, api.Ts{P: 1009}, api.Ts{P: 5000}, api.OK},
		{api.Ts{P: 5000}, 9, zero, api.Ts{P: 5000}, api.OK},
		// A sum of such a reading and MaxSkew would wrap.
		{now, math.MaxUint64, api.Ts{P: 8, L: 1}, api.Ts{P: 8, L: 1}, api.OK},
		{now, math.MaxUint64, greatest, greatest, api.OK},
		{now, math.MaxUint64 - 999, api.Ts{P: 1}, now, api.OK},
		{now, math.MaxUint64 - 999, greatest, greatest, api.OK},
		{now, math.MaxUint64 - 1000, greatest, greatest, api.OK},
		{now, 1 << 63, greatest, greatest, api.OK},
		// What isn't right: now, t, both; also beside a skew.
		{api.Ts{P: maxPhys + 1}, 9, now, zero, api.ErrArg},
		{api.Ts{P: 5, L: maxLogic + 1}, 9, now, zero, api.ErrArg},
		{api.Ts{P: maxPhys + 1, L: maxLogic + 1}, 9, now, zero, api.ErrArg},
		{now, 9, api.Ts{P: maxPhys + 1}, zero, api.ErrArg},
		{now, maxPhys + 1, api.Ts{P: maxPhys + 1}, zero, api.ErrArg},
		{now, 9, api.Ts{P: 5, L: maxLogic + 1}, zero, api.ErrArg},
		{now, 9, api.Ts{L: maxLogic + 1}, zero, api.ErrArg},
		{now, 9, api.Ts{P: math.MaxUint64, L: math.MaxUint32}, zero, api.ErrArg},
		{now, 9, api.Ts{P: 1010, L: maxLogic + 1}, zero, api.ErrArg},
		{api.Ts{P: 5, L: maxLogic + 1}, 9, api.Ts{P: 1010}, zero, api.ErrArg},
		{api.Ts{P: maxPhys + 1}, 9, api.Ts{P: maxPhys + 1}, zero, api.ErrArg},
		{api.Ts{L: math.MaxUint32}, math.MaxUint64, api.Ts{P: math.MaxUint64}, zero, api.ErrArg},
	} {
		if got, err := clock.Merge(c.now, c.phys, c.t); got != c.want || err != c.err {
			t.Errorf("Merge(%v, %d, %v) = %v, %d, not %v, %d", c.now, c.phys, c.t, got, err, c.want, c.err)
		}
	}
}

func TestBound(t *testing.T) {
	for _, c := range []struct {
		t, want api.Ts
	}{
		{zero, api.Ts{P: 64, L: 4095}},
		{api.Ts{P: 5, L: 3}, api.Ts{P: 69, L: 4095}},
		{api.Ts{P: 5, L: 4095}, api.Ts{P: 69, L: 4095}},
		{api.Ts{P: maxPhys - 65, L: 3}, api.Ts{P: maxPhys - 1, L: 4095}},
		{api.Ts{P: maxPhys - 64}, greatest},
		{api.Ts{P: maxPhys - 63}, greatest},
		{api.Ts{P: maxPhys}, greatest},
		{greatest, greatest},
		{api.Ts{P: maxPhys + 1}, zero},
		{api.Ts{P: 5, L: maxLogic + 1}, zero},
		{api.Ts{P: maxPhys, L: maxLogic + 1}, zero},
		{api.Ts{P: maxPhys + 1, L: maxLogic + 1}, zero},
		{api.Ts{P: math.MaxUint64 - 63}, zero},
		{api.Ts{P: math.MaxUint64, L: math.MaxUint32}, zero},
	} {
		if got := clock.Bound(c.t); got != c.want {
			t.Errorf("Bound(%v) = %v, not %v", c.t, got, c.want)
		}
	}
}

func TestLate(t *testing.T) {
	for _, c := range []struct {
		t, now api.Ts
		want   bool
	}{
		{api.Ts{P: 5, L: 3}, api.Ts{P: 105}, false},
		{api.Ts{P: 5, L: 3}, api.Ts{P: 105, L: 4095}, false},
		{api.Ts{P: 5, L: 3}, api.Ts{P: 106}, true},
		{api.Ts{P: 5, L: 4095}, api.Ts{P: 106}, true},
		{api.Ts{P: 5, L: 3}, api.Ts{P: 104, L: 4095}, false},
		{zero, zero, false},
		{zero, api.Ts{P: 100}, false},
		{zero, api.Ts{P: 101}, true},
		{zero, greatest, true},
		// now below t.
		{api.Ts{P: 5}, api.Ts{P: 4}, false},
		{api.Ts{P: 106}, api.Ts{P: 5}, false},
		{api.Ts{P: 5, L: 4}, api.Ts{P: 5, L: 3}, false},
		{greatest, zero, false},
		{api.Ts{P: math.MaxUint64}, zero, false},
		// A sum of such a P and Ttl would wrap.
		{api.Ts{P: math.MaxUint64}, api.Ts{P: math.MaxUint64}, false},
		{api.Ts{P: math.MaxUint64}, api.Ts{P: 1000}, false},
		{api.Ts{P: math.MaxUint64 - 99}, api.Ts{P: math.MaxUint64}, false},
		{api.Ts{P: math.MaxUint64 - 99}, api.Ts{P: 1}, false},
		{api.Ts{P: math.MaxUint64 - 100}, api.Ts{P: math.MaxUint64}, false},
		{api.Ts{P: math.MaxUint64 - 101}, api.Ts{P: math.MaxUint64}, true},
		// Neither need be right.
		{zero, api.Ts{P: math.MaxUint64, L: math.MaxUint32}, true},
		{api.Ts{P: 5, L: math.MaxUint32}, api.Ts{P: 106, L: math.MaxUint32}, true},
		{api.Ts{P: 5, L: math.MaxUint32}, api.Ts{P: 105, L: math.MaxUint32}, false},
		{api.Ts{P: maxPhys}, api.Ts{P: maxPhys + 101}, true},
	} {
		if got := clock.Late(c.t, c.now); got != c.want {
			t.Errorf("Late(%v, %v) = %v", c.t, c.now, got)
		}
	}
}

// P6.1 and P6.2: all stamps and readings about the limits, with each other.

func TestTicksOfAllEdges(t *testing.T) {
	for _, now := range stamps() {
		for _, phys := range readings() {
			checkTick(t, now, phys)
		}
	}
}

func TestMergesOfAllEdges(t *testing.T) {
	all := stamps()
	for _, now := range all {
		for _, u := range all {
			for _, phys := range []uint64{0, 9, 1000, maxPhys - 1001, maxPhys - 1000, maxPhys, maxPhys + 1, math.MaxUint64 - 1000, math.MaxUint64 - 999, math.MaxUint64} {
				checkMerge(t, now, phys, u)
			}
		}
	}
}

func TestBoundsAndLatesOfAllEdges(t *testing.T) {
	all := stamps()
	for _, u := range all {
		if got, want := clock.Bound(u), plainBound(u); got != want {
			t.Errorf("Bound(%v) = %v, not %v", u, got, want)
		}
		for _, now := range all {
			if got, want := clock.Late(u, now), exceeds(now.P, u.P, 100); got != want {
				t.Errorf("Late(%v, %v) = %v", u, now, got)
			}
		}
	}
}

func TestCallsByChance(t *testing.T) {
	r := rand.New(rand.NewSource(6))
	some := func() api.Ts {
		bases := []uint64{0, 1000, maxPhys - 2000, maxPhys - 64, uint64(r.Int63n(int64(maxPhys))), math.MaxUint64 - 3000}
		return api.Ts{P: bases[r.Intn(len(bases))] + uint64(r.Intn(2500)), L: uint32(r.Intn(4100))}
	}
	for range 200000 {
		now, u, phys := some(), some(), some().P
		if r.Intn(2) == 0 {
			u.P = phys + 990 + uint64(r.Intn(20))
		}
		checkTick(t, now, phys)
		checkMerge(t, now, phys, u)
		if got, want := clock.Bound(u), plainBound(u); got != want {
			t.Errorf("Bound(%v) = %v, not %v", u, got, want)
		}
		now.P = u.P + uint64(r.Intn(200))
		if got, want := clock.Late(u, now), exceeds(now.P, u.P, 100); got != want {
			t.Errorf("Late(%v, %v) = %v", u, now, got)
		}
	}
}

// P6.2

// TestNeverBack lets one clock go on by readings and stamps of all kinds: it goes up at each tick, and at no merge down.
func TestNeverBack(t *testing.T) {
	r := rand.New(rand.NewSource(62))
	now, phys := zero, uint64(0)
	ticks, merges := 0, 0
	for range 100000 {
		phys = phys + uint64(r.Intn(40)) - uint64(min(phys, uint64(r.Intn(40))))
		if r.Intn(2) == 0 {
			next, err := clock.Tick(now, phys)
			if err != api.OK || !stamp.Less(now, next) || next.P < phys {
				t.Fatalf("Tick(%v, %d) = %v, %d", now, phys, next, err)
			}
			now = next
			ticks++
			continue
		}
		u := api.Ts{P: phys + uint64(r.Intn(1100)), L: uint32(r.Intn(4096))}
		next, err := clock.Merge(now, phys, u)
		if ahead := u.P-phys > 1000; ahead != (err == api.ErrSkew) {
			t.Fatalf("Merge(%v, %d, %v): %d", now, phys, u, err)
		}
		if err != api.OK {
			continue
		}
		if stamp.Less(next, now) || stamp.Less(next, u) || (next != now && next != u) {
			t.Fatalf("Merge(%v, %d, %v) = %v", now, phys, u, next)
		}
		now = next
		merges++
	}
	if ticks < 1000 || merges < 1000 {
		t.Errorf("%d ticks and %d merges are too few", ticks, merges)
	}
}

// stays ticks 64 times from u on, by what the readings say, and tells of the first tick that the bound isn't above.
func stays(t *testing.T, u api.Ts, reading func(i int) uint64) {
	t.Helper()
	bound, now := clock.Bound(u), u
	for i := range 64 {
		next, err := clock.Tick(now, reading(i))
		if err != api.OK || !stamp.Less(next, bound) {
			t.Fatalf("tick %d from %v on: Tick(%v, %d) = %v, %d; the bound is %v", i+1, u, now, reading(i), next, err, bound)
		}
		now = next
	}
}

func TestBoundIsAboveTicks(t *testing.T) {
	r := rand.New(rand.NewSource(64))
	for _, p := range []uint64{0, 1, 5, 1000, 1 << 32, maxPhys - 130, maxPhys - 65, maxPhys - 64, maxPhys - 63, maxPhys - 2, maxPhys - 1} {
		for _, l := range []uint32{0, 3, 4000, 4031, 4032, 4094, 4095} {
			u := api.Ts{P: p, L: l}
			most := min(p+64, maxPhys)
			stays(t, u, func(int) uint64 { return 0 })
			stays(t, u, func(int) uint64 { return p })
			stays(t, u, func(int) uint64 { return most })
			stays(t, u, func(i int) uint64 { return min(p+uint64(i)+1, most) })
			stays(t, u, func(i int) uint64 { return most - min(uint64(i), most) })
			stays(t, u, func(i int) uint64 { return p * uint64(i%2) })
			var by [64]uint64
			for range 20 {
				for i := range by {
					by[i] = uint64(r.Int63n(int64(most) + 1))
					if r.Intn(2) == 0 {
						by[i] = min(p+uint64(r.Intn(65)), most)
					}
				}
				stays(t, u, func(i int) uint64 { return by[i] })
			}
		}
	}
}

// TestBoundAtTheEndOfTime: with so few stamps left that 64 ticks use them up, no tick passes the bound.
func TestBoundAtTheEndOfTime(t *testing.T) {
	stays(t, api.Ts{P: maxPhys, L: 4030}, func(int) uint64 { return maxPhys })
	for _, l := range []uint32{4031, 4032, 4094, 4095} {
		u := api.Ts{P: maxPhys, L: l}
		bound, now := clock.Bound(u), u
		left := int(4095 - l)
		for i := range 64 {
			next, err := clock.Tick(now, maxPhys)
			if i >= left {
				if err != api.ErrOver || next != zero {
					t.Errorf("Tick(%v): %v, %d", now, next, err)
				}
				continue
			}
			if err != api.OK || stamp.Less(bound, next) {
				t.Errorf("Tick(%v): %v, %d; the bound is %v", now, next, err, bound)
			}
			now = next
		}
	}
}
