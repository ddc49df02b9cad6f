package order_test

import (
	"math"
	"math/bits"
	"math/rand"
	"reflect"
	"slices"
	"testing"
	"time"

	"dovecote/order"
)

// P8.2: steps in the order of the logarithm of Len, and of the keys that are answered. It is asked in two ways, neither of which hangs on how the map is built: how far off its farthest thing lies, and that as many calls as there are keys take parts of a second, where steps as many as the keys would take minutes.

// far answers how many pointers (or lists) must be followed from v to what lies farthest off.
func far(v reflect.Value) int {
	had := map[uintptr]bool{}
	steps := -1
	for level := []reflect.Value{v}; len(level) > 0; steps++ {
		var next []reflect.Value
		for _, x := range level {
			next = pointed(x, had, next)
		}
		level = next
	}
	return steps
}

// pointed answers next and, behind it, what pointers in v point to that nobody has followed yet.
func pointed(v reflect.Value, had map[uintptr]bool, next []reflect.Value) []reflect.Value {
	switch v.Kind() {
	case reflect.Pointer:
		if !v.IsNil() && !had[v.Pointer()] {
			had[v.Pointer()] = true
			next = append(next, v.Elem())
		}
	case reflect.Slice:
		if v.Len() > 0 && !had[v.Pointer()] {
			had[v.Pointer()] = true
			for i := range v.Len() {
				next = append(next, v.Index(i))
			}
		}
	case reflect.Array:
		for i := range v.Len() {
			next = pointed(v.Index(i), had, next)
		}
	case reflect.Struct:
		for i := range v.NumField() {
			next = pointed(v.Field(i), had, next)
		}
	}
	return next
}

// near fails where something of m lies farther off than twice the logarithm of Len, and some steps.
func near(t *testing.T, m *order.Map[int]) {
	t.Helper()
	most := 2*math.Log2(float64(m.Len()+1)) + 2
	if steps := far(reflect.ValueOf(m)); float64(steps) > most {
		t.Fatalf("%d keys, and one of them %d steps off", m.Len(), steps)
	}
}

func TestNearOfMany(t *testing.T) {
	const n = 1200
	for _, set := range many(n) {
		for _, cut := range many(n) {
			m := order.New[int]()
			for i, x := range set {
				m.Set(wide(x), x)
				if i%61 == 0 || i < 20 {
					near(t, m)
				}
			}
			for i, x := range cut {
				m.Cut(wide(x))
				if i%61 == 0 || i > n-20 {
					near(t, m)
				}
			}
		}
	}
}

// TestNearByChance sets and cuts along ways of several kinds, a new way and other odds every now and then.
func TestNearByChance(t *testing.T) {
	for seed := range 200 {
		r := rand.New(rand.NewSource(int64(seed)))
		size := 8 << r.Intn(9)
		ways := []func(at int) int{
			func(at int) int { return at + 1 },
			func(at int) int { return at - 1 },
			func(at int) int { return at + 3 },
			func(at int) int { return at + size/2 + 1 },
			func(at int) int { return r.Intn(2) - at },
			func(at int) int { return r.Intn(size) },
		}
		m := order.New[int]()
		at, way, odds := 0, 0, 0
		for i := range 2000 {
			if r.Intn(100) == 0 {
				at, way, odds = r.Intn(size), r.Intn(len(ways)), r.Intn(10)
			}
			at = (ways[way](at) + size) % size
			if r.Intn(10) < odds {
				m.Cut(wide(at))
			} else {
				m.Set(wide(at), i)
			}
			if i%50 == 0 {
				near(t, m)
			}
		}
	}
}

// TestNearOfQueue sets keys at one end and cuts them at the other, so that it leans one way all the time.
func TestNearOfQueue(t *testing.T) {
	const n = 20000
	for _, long := range []int{1, 7, 50, 1000} {
		for _, falling := range []bool{false, true} {
			place := func(i int) string {
				if falling {
					i = n - i
				}
				return wide(i)
			}
			m := order.New[int]()
			for i := range n {
				m.Set(place(i), i)
				if i >= long && !m.Cut(place(i-long)) {
					t.Fatal("Cut", i)
				}
				if i%199 == 0 {
					near(t, m)
				}
			}
		}
	}
}

// TestNearBehindCuts leaves few of many keys: those of one end, some here and there, or those that lie one below the other.
func TestNearBehindCuts(t *testing.T) {
	const n = 1<<12 - 1
	for _, set := range many(n) {
		for what, stays := range map[string]func(i int) bool{
			"the first":     func(i int) bool { return i < 9 },
			"the last":      func(i int) bool { return i >= n-9 },
			"those between": func(i int) bool { return i/9 == n/18 },
			"some":          func(i int) bool { return i%500 == 7 },
			"every second":  func(i int) bool { return i%2 == 0 },
			"one":           func(i int) bool { return i == n/3 },
			"rarer upward":  func(i int) bool { return bits.OnesCount(uint(i+1)) == 1 },
			"rarer down":    func(i int) bool { return bits.OnesCount(uint(n-i)) == 1 },
			"rarer inward":  func(i int) bool { return slices.Contains(inward(n), i) },
		} {
			m := order.New[int]()
			for _, x := range set {
				m.Set(wide(x), x)
			}
			for x := range n {
				if !stays(x) && !m.Cut(wide(x)) {
					t.Fatal(what, "Cut", x)
				}
			}
			near(t, m)
		}
	}
}

// inward answers the places below n on a way from the middle that goes by half as far each time, up and down by turns.
func inward(n int) []int {
	at, far := n/2, (n+1)/4
	l := []int{at}
	for ; far > 0; far /= 2 {
		if len(l)%2 == 0 {
			at -= far
		} else {
			at += far
		}
		l = append(l, at)
	}
	return l
}

const (
	great  = 1 << 17
	enough = 25 * time.Second
)

// long answers the key of a place, in the order of places.
func long(i int) string {
	return string([]byte{byte(i >> 16), byte(i >> 8), byte(i)})
}

// quick makes a call for each of places, and fails when they take too long.
func quick(t *testing.T, what string, places []int, call func(i int) bool) {
	t.Helper()
	begun := time.Now()
	for n, i := range places {
		if !call(i) {
			t.Fatalf("%s: a wrong answer at %d", what, i)
		}
		if n%64 == 0 && time.Since(begun) > enough {
			t.Fatalf("%s: %d calls of %d took %v", what, n, len(places), time.Since(begun))
		}
	}
}

func TestQuickSetGetCut(t *testing.T) {
	for how, places := range many(great) {
		m := order.New[int]()
		quick(t, how+": Set", places, func(i int) bool { m.Set(long(2*i), i); return true })
		quick(t, how+": Set again", places, func(i int) bool { m.Set(long(2*i), i+1); return true })
		quick(t, how+": Len", places, func(i int) bool { return m.Len() == great })
		quick(t, how+": Get", places, func(i int) bool { v, ok := m.Get(long(2 * i)); return v == i+1 && ok })
		quick(t, how+": Get of none", places, func(i int) bool { _, ok := m.Get(long(2*i + 1)); return !ok })
		quick(t, how+": Cut of none", places, func(i int) bool { return !m.Cut(long(2*i + 1)) })
		quick(t, how+": Cut", places, func(i int) bool { return m.Cut(long(2 * i)) })
		if m.Len() != 0 {
			t.Fatal(how, m.Len())
		}
	}
}

func TestQuickKeys(t *testing.T) {
	m := order.New[int]()
	places := many(great)["rising"]
	for _, i := range places {
		m.Set(long(2*i), i)
	}
	first, last := long(0), long(2*(great-1))
	is := func(l []string, want ...string) bool { return slices.Equal(l, want) }
	for what, call := range map[string]func(i int) bool{
		"the first one":             func(i int) bool { return is(m.Keys("", "", 1), first) },
		"the last one":              func(i int) bool { return is(m.Keys(last, "", math.MaxInt), last) },
		"one from a key":            func(i int) bool { return is(m.Keys(long(2*i), "", 1), long(2*i)) },
		"one ahead of a key":        func(i int) bool { return is(m.Keys(long(2*i), long(2*i+1), math.MaxInt), long(2*i)) },
		"none between two keys":     func(i int) bool { return is(m.Keys(long(2*i+1), long(2*i+2), math.MaxInt)) },
		"none of a limit":           func(i int) bool { return is(m.Keys("", "", -(i % 2))) },
		"none of equal ends":        func(i int) bool { return is(m.Keys(long(2*i), long(2*i), math.MaxInt)) },
		"none of ends turned about": func(i int) bool { return is(m.Keys(long(2*i+1), first, math.MaxInt)) },
		"none of the farthest ends": func(i int) bool { return is(m.Keys(last, first, math.MaxInt)) },
		"none ahead of the first":   func(i int) bool { return is(m.Keys("", first, math.MaxInt)) },
		"none behind the last":      func(i int) bool { return is(m.Keys(last+"x", "", math.MaxInt)) },
		"forty at most":             func(i int) bool { return len(m.Keys(long(2*i), long(2*i+80), math.MaxInt)) == min(40, great-i) },
	} {
		quick(t, "Keys, "+what, places, call)
	}
	quick(t, "Keys, all, and a half of them", places[:100], func(i int) bool {
		return len(m.Keys("", "", great)) == great && len(m.Keys("", "", great/2)) == great/2 && len(m.Keys("", long(great), math.MaxInt)) == great/2
	})
}
