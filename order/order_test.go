package order_test

import (
	"errors"
	"math"
	"math/rand"
	"slices"
	"sort"
	"strconv"
	"strings"
	"testing"

	"dovecote/order"
)

// plain is the document's words a second time: keys and what they have, in no order.
type plain struct {
	keys []string
	vals []int
}

func (p *plain) Set(key string, v int) {
	p.Cut(key)
	p.keys, p.vals = append(p.keys, key), append(p.vals, v)
}

func (p *plain) Get(key string) (int, bool) {
	if i := slices.Index(p.keys, key); i >= 0 {
		return p.vals[i], true
	}
	return 0, false
}

func (p *plain) Cut(key string) bool {
	i := slices.Index(p.keys, key)
	if i < 0 {
		return false
	}
	p.keys, p.vals = slices.Delete(p.keys, i, i+1), slices.Delete(p.vals, i, i+1)
	return true
}

func (p *plain) Len() int { return len(p.keys) }

func (p *plain) Keys(from, to string, limit int) []string {
	var in []string
	for _, k := range p.keys {
		if !ahead(k, from) && (len(to) == 0 || ahead(k, to)) {
			in = append(in, k)
		}
	}
	sort.Slice(in, func(i, j int) bool { return ahead(in[i], in[j]) })
	return in[:max(0, min(limit, len(in)))]
}

// ahead tells whether a's bytes come ahead of b's.
func ahead(a, b string) bool {
	for i := range len(a) {
		if i == len(b) {
			return false
		}
		if a[i] != b[i] {
			return a[i] < b[i]
		}
	}
	return len(a) < len(b)
}

// caller is what both of them answer.
type caller interface {
	Set(key string, v int)
	Get(key string) (int, bool)
	Cut(key string) bool
	Len() int
	Keys(from, to string, limit int) []string
}

// alike holds what m tells of keys, ends and limits against what p tells.
func alike(t *testing.T, m, p caller, keys, ends []string, limits []int) {
	t.Helper()
	if m.Len() != p.Len() {
		t.Fatalf("Len: %d, want %d", m.Len(), p.Len())
	}
	for _, k := range keys {
		v, ok := m.Get(k)
		w, has := p.Get(k)
		if v != w || ok != has {
			t.Fatalf("Get(%q): %d %v, want %d %v", k, v, ok, w, has)
		}
	}
	for _, from := range ends {
		for _, to := range ends {
			for _, limit := range limits {
				got, want := m.Keys(from, to, limit), p.Keys(from, to, limit)
				if !slices.Equal(got, want) {
					t.Fatalf("Keys(%q, %q, %d): %q, want %q", from, to, limit, got, want)
				}
			}
		}
	}
}

// of answers a map whose keys have their places in l.
func of(l ...string) *order.Map[int] {
	m := order.New[int]()
	for i, k := range l {
		m.Set(k, i)
	}
	return m
}

// orders answers l in all orders.
func orders(l []string) [][]string {
	if len(l) == 0 {
		return [][]string{nil}
	}
	var all [][]string
	for i, k := range l {
		for _, rest := range orders(slices.Concat(l[:i], l[i+1:])) {
			all = append(all, append([]string{k}, rest...))
		}
	}
	return all
}

// wide answers a key of two bytes.
func wide(i int) string { return string([]byte{byte(i >> 8), byte(i)}) }

// P8.1: each call answers as the chapter says, in any order of calls.

func TestExamples(t *testing.T) {
	m := order.New[int]()
	m.Set("a", 1)
	m.Set("c", 2)
	m.Set("b", 3)
	for _, x := range []struct {
		from, to string
		limit    int
		want     []string
	}{
		{"", "", 9, []string{"a", "b", "c"}},
		{"b", "c", 9, []string{"b"}},
		{"", "", 1, []string{"a"}},
	} {
		if got := m.Keys(x.from, x.to, x.limit); !slices.Equal(got, x.want) {
			t.Errorf("Keys(%q, %q, %d): %q", x.from, x.to, x.limit, got)
		}
	}
	if !m.Cut("a") || m.Cut("a") {
		t.Error("Cut of a: true, and then false")
	}
}

// nothing asks for what a map without keys must answer.
func nothing(t *testing.T, m *order.Map[int]) {
	t.Helper()
	if m.Len() != 0 {
		t.Error("Len:", m.Len())
	}
	for _, k := range []string{"", "a", "\x00", "\xff", strings.Repeat("k", 1000)} {
		if v, ok := m.Get(k); v != 0 || ok {
			t.Errorf("Get(%q): %d %v", k, v, ok)
		}
		if m.Cut(k) {
			t.Errorf("Cut(%q): true", k)
		}
		for _, limit := range []int{math.MinInt, -1, 0, 1, 2, math.MaxInt} {
			if l := slices.Concat(m.Keys(k, "", limit), m.Keys("", k, limit), m.Keys(k, k, limit)); len(l) != 0 {
				t.Errorf("Keys of %q, %d: %q", k, limit, l)
			}
		}
	}
	if m.Len() != 0 {
		t.Error("Len behind cuts:", m.Len())
	}
}

func TestNilMap(t *testing.T) {
	var m *order.Map[int]
	nothing(t, m)
	m.Set("a", 1)
	m.Set("", 2)
	nothing(t, m)
	var l *order.Map[[]string]
	l.Set("a", []string{"x"})
	if v, ok := l.Get("a"); v != nil || ok {
		t.Error("Get of a nil map:", v, ok)
	}
}

func TestEmptyMap(t *testing.T) {
	if order.New[int]() == nil {
		t.Fatal("New answers nil")
	}
	nothing(t, order.New[int]())
	m := of("a", "", "b")
	for _, k := range []string{"a", "", "b"} {
		m.Cut(k)
	}
	nothing(t, m)
}

func TestMapsApart(t *testing.T) {
	a, b := of("x"), of("x", "y")
	a.Set("x", 7)
	a.Cut("y")
	b.Cut("x")
	if v, _ := a.Get("x"); v != 7 || a.Len() != 1 || b.Len() != 1 {
		t.Error("one map shows in another:", v, a.Len(), b.Len())
	}
}

func TestSetGet(t *testing.T) {
	m := order.New[int]()
	for i, x := range []struct {
		key  string
		v, n int
	}{
		{"", 5, 1}, {"a", 6, 2}, {"a", 7, 2}, {"", 0, 2}, {"\x00", 8, 3}, {"a\x00", 9, 4}, {"\xff\xfe", 1, 5}, {"a", 0, 5}, {"a", -1, 5},
	} {
		m.Set(x.key, x.v)
		if v, ok := m.Get(x.key); v != x.v || !ok || m.Len() != x.n {
			t.Errorf("%d: Get(%q): %d %v, Len %d", i, x.key, v, ok, m.Len())
		}
	}
	for _, k := range []string{"b", "aa", "a\x00\x00", "\x00\x00", "\xff", "A"} {
		if v, ok := m.Get(k); v != 0 || ok {
			t.Errorf("Get(%q): %d %v", k, v, ok)
		}
	}
	if want := []string{"", "\x00", "a", "a\x00", "\xff\xfe"}; !slices.Equal(m.Keys("", "", 9), want) {
		t.Errorf("%q", m.Keys("", "", 9))
	}
}

func TestCut(t *testing.T) {
	all := []string{"b", "d", "f", "h", "j", "l", "n"}
	for i, k := range all {
		m := of(all...)
		if m.Cut("a") || m.Cut("c") || m.Cut("o") || m.Cut("") || m.Len() != 7 {
			t.Fatal("Cut of a key that has nothing")
		}
		if !m.Cut(k) || m.Len() != 6 {
			t.Errorf("Cut(%q): Len %d", k, m.Len())
		}
		if v, ok := m.Get(k); v != 0 || ok {
			t.Errorf("Get(%q) behind Cut: %d %v", k, v, ok)
		}
		if m.Cut(k) || m.Len() != 6 {
			t.Errorf("second Cut(%q): Len %d", k, m.Len())
		}
		for j, o := range all {
			if v, ok := m.Get(o); j != i && (v != j || !ok) {
				t.Errorf("Get(%q) behind Cut(%q): %d %v", o, k, v, ok)
			}
		}
		if want := slices.Concat(all[:i], all[i+1:]); !slices.Equal(m.Keys("", "", 9), want) {
			t.Errorf("Keys behind Cut(%q): %q", k, m.Keys("", "", 9))
		}
		m.Set(k, 70)
		if v, ok := m.Get(k); v != 70 || !ok || m.Len() != 7 || !slices.Equal(m.Keys("", "", 9), all) {
			t.Errorf("Get(%q), set again: %d %v", k, v, ok)
		}
	}
}

func TestCutOnly(t *testing.T) {
	for _, k := range []string{"", "a", "\x00", "\xff\xff"} {
		m := of(k)
		if !m.Cut(k) || m.Cut(k) || m.Len() != 0 || len(m.Keys("", "", 9)) != 0 {
			t.Errorf("Cut(%q) of the only key", k)
		}
		m.Set(k, 3)
		if v, ok := m.Get(k); v != 3 || !ok || m.Len() != 1 {
			t.Errorf("Get(%q), set again: %d %v", k, v, ok)
		}
	}
}

func TestKeys(t *testing.T) {
	m := of("d", "b", "h", "f")
	for _, x := range []struct {
		from, to string
		limit    int
		want     string
	}{
		{"", "", 9, "b d f h"},
		{"b", "", 9, "b d f h"},
		{"a", "", 9, "b d f h"},
		{"c", "", 9, "d f h"},
		{"d", "", 9, "d f h"},
		{"d\x00", "", 9, "f h"},
		{"h", "", 9, "h"},
		{"i", "", 9, ""},
		{"", "i", 9, "b d f h"},
		{"", "h", 9, "b d f"},
		{"", "h\x00", 9, "b d f h"},
		{"", "e", 9, "b d"},
		{"", "b", 9, ""},
		{"", "a", 9, ""},
		{"d", "f", 9, "d"},
		{"d", "g", 9, "d f"},
		{"c", "e", 9, "d"},
		{"d", "e", 9, "d"},
		{"e", "f", 9, ""},
		{"d", "d", 9, ""},
		{"f", "d", 9, ""},
		{"g", "c", 9, ""},
		{"z", "a", 9, ""},
		{"c", "c", 9, ""},
		{"", "", math.MinInt, ""},
		{"", "", -1, ""},
		{"", "", 0, ""},
		{"", "", 1, "b"},
		{"", "", 2, "b d"},
		{"", "", 3, "b d f"},
		{"", "", 4, "b d f h"},
		{"", "", 5, "b d f h"},
		{"", "", math.MaxInt, "b d f h"},
		{"c", "", 1, "d"},
		{"d", "h", 1, "d"},
		{"d", "h", 2, "d f"},
		{"d", "h", 3, "d f"},
		{"d", "h", 0, ""},
		{"d", "h", math.MaxInt, "d f"},
	} {
		if got := m.Keys(x.from, x.to, x.limit); !slices.Equal(got, strings.Fields(x.want)) {
			t.Errorf("Keys(%q, %q, %d): %q, want %s", x.from, x.to, x.limit, got, x.want)
		}
	}
}

func TestOrderOfBytes(t *testing.T) {
	// Bytes, neither runes nor letters, and the shorter one first.
	want := []string{"", "\x00", "\x00\x00", "\x00\xff", "A", "Z", "a", "a\x00", "aa", "ab", "b", "\x7f", "\x80", "\xc3\x28", "é", "\xf0\x9f\x90\xa6", "\xff", "\xff\x00", "\xff\xff"}
	for turn := range 200 {
		r := rand.New(rand.NewSource(int64(turn)))
		l := slices.Clone(want)
		r.Shuffle(len(l), func(i, j int) { l[i], l[j] = l[j], l[i] })
		if got := of(l...).Keys("", "", 100); !slices.Equal(got, want) {
			t.Fatalf("%q", got)
		}
	}
	m := of(want...)
	for i, from := range want {
		if got := m.Keys(from, "", 100); !slices.Equal(got, want[i:]) {
			t.Errorf("Keys from %q: %q", from, got)
		}
		if got := m.Keys("", from, 100); i > 0 && !slices.Equal(got, want[:i]) {
			t.Errorf("Keys ahead of %q: %q", from, got)
		}
	}
}

// TestEveryCall makes all sequences of up to six calls of Set and Cut on four keys.
func TestEveryCall(t *testing.T) {
	keys := []string{"", "a", "a\x00", "b"}
	ends := []string{"", "\x00", "a", "a\x00", "aa", "b", "c"}
	calls := 2 * len(keys)
	for length, all := 0, 1; length <= 6; length, all = length+1, all*calls {
		for n := range all {
			m, p := order.New[int](), &plain{}
			for i, rest := 0, n; i < length; i, rest = i+1, rest/calls {
				k := keys[rest%len(keys)]
				if rest%calls < len(keys) {
					m.Set(k, i+1)
					p.Set(k, i+1)
				} else if got, want := m.Cut(k), p.Cut(k); got != want {
					t.Fatalf("sequence %d of %d calls: Cut(%q): %v", n, length, k, got)
				}
			}
			if length <= 4 {
				alike(t, m, p, append(keys, "aa"), ends, []int{-1, 0, 1, 2, 3, 4, 5})
			} else {
				alike(t, m, p, keys, []string{"", "a"}, []int{2, 9})
			}
		}
	}
}

// TestEveryOrder sets five keys in all orders, and cuts them in all orders.
func TestEveryOrder(t *testing.T) {
	all := []string{"a", "b", "c", "d", "e"}
	for _, set := range orders(all) {
		for _, cut := range orders(all) {
			m, left := of(set...), slices.Clone(all)
			for _, k := range cut {
				if !m.Cut(k) || m.Cut(k) {
					t.Fatalf("set %q, cut %q: Cut(%q)", set, cut, k)
				}
				left = slices.DeleteFunc(left, func(o string) bool { return o == k })
				if !slices.Equal(m.Keys("", "", 9), left) || m.Len() != len(left) {
					t.Fatalf("set %q, cut %q: %q, want %q", set, cut, m.Keys("", "", 9), left)
				}
				for _, o := range left {
					if v, ok := m.Get(o); v != slices.Index(set, o) || !ok {
						t.Fatalf("set %q, cut %q: Get(%q): %d %v", set, cut, o, v, ok)
					}
				}
			}
		}
	}
}

// TestByChance makes calls of all kinds on keys of few letters, some of them the beginnings of others.
func TestByChance(t *testing.T) {
	for seed := range 60 {
		r := rand.New(rand.NewSource(int64(seed)))
		letters := []string{"ab", "\x00\xff", "abcdefgh", "\x00\x01a\x7f\x80\xff"}[seed%4]
		some := func() string {
			b := make([]byte, r.Intn(4))
			for i := range b {
				b[i] = letters[r.Intn(len(letters))]
			}
			return string(b)
		}
		m, p := order.New[int](), &plain{}
		for i := range 1500 {
			k := some()
			// Rounds of more sets, and of more cuts, so that it grows and shrinks.
			if r.Intn(10) < 3+4*(i/250%2) {
				if got, want := m.Cut(k), p.Cut(k); got != want {
					t.Fatalf("seed %d: Cut(%q): %v", seed, k, got)
				}
			} else {
				m.Set(k, i)
				p.Set(k, i)
			}
			alike(t, m, p, []string{k, some()}, []string{some(), some()}, []int{r.Intn(9) - 2, 1000})
		}
		alike(t, m, p, p.keys, []string{""}, []int{p.Len() - 1, p.Len(), p.Len() + 1})
	}
}

// many answers the places below n in rising, falling and other orders.
func many(n int) map[string][]int {
	rising := make([]int, n)
	for i := range rising {
		rising[i] = i
	}
	falling := slices.Clone(rising)
	slices.Reverse(falling)
	var outside []int // the first, the last, the second, ..
	for i := range (n + 1) / 2 {
		outside = append(outside, i)
		if i != n-1-i {
			outside = append(outside, n-1-i)
		}
	}
	inside := slices.Clone(outside)
	slices.Reverse(inside)
	return map[string][]int{
		"rising": rising, "falling": falling, "from outside": outside, "from inside": inside,
		"by chance": rand.New(rand.NewSource(1)).Perm(n),
	}
}

func TestMany(t *testing.T) {
	const n = 3001
	var all []string
	for i := range n {
		all = append(all, wide(i))
	}
	for how, set := range many(n) {
		for way, cut := range many(n) {
			m := order.New[string]()
			for i, x := range set {
				m.Set(all[x], strconv.Itoa(x))
				if m.Len() != i+1 {
					t.Fatal(how, "Len", m.Len())
				}
			}
			if !slices.Equal(m.Keys("", "", n), all) {
				t.Fatal(how, "Keys")
			}
			gone := make([]bool, n)
			for i, x := range cut {
				if !m.Cut(all[x]) || m.Len() != n-i-1 {
					t.Fatal(how, way, "Cut", x, m.Len())
				}
				gone[x] = true
				near := (x + 1) % n
				if v, ok := m.Get(all[near]); ok == gone[near] || ok && v != strconv.Itoa(near) {
					t.Fatal(how, way, "Get", near, v, ok)
				}
				if i%500 == 0 {
					left := slices.DeleteFunc(slices.Clone(all), func(k string) bool { return gone[int(k[0])<<8|int(k[1])] })
					if !slices.Equal(m.Keys("", "", math.MaxInt), left) {
						t.Fatal(how, way, "Keys behind", i)
					}
				}
			}
		}
	}
}

// keeps asks whether a map keeps values of V, a zero one among them.
func keeps[V any](t *testing.T, same func(a, b V) bool, a, b V) {
	t.Helper()
	var zero V
	m := order.New[V]()
	m.Set("a", a)
	m.Set("b", b)
	m.Set("z", zero)
	for k, want := range map[string]V{"a": a, "b": b, "z": zero} {
		if got, ok := m.Get(k); !ok || !same(got, want) {
			t.Errorf("Get(%q): %v %v", k, got, ok)
		}
	}
	m.Set("a", b)
	if got, ok := m.Get("a"); !ok || !same(got, b) {
		t.Errorf("Get of a, set again: %v %v", got, ok)
	}
	m.Cut("a")
	if got, ok := m.Get("a"); ok || !same(got, zero) {
		t.Errorf("Get of a, cut: %v %v", got, ok)
	}
	if got, ok := m.Get("none"); ok || !same(got, zero) {
		t.Errorf("Get of none: %v %v", got, ok)
	}
}

func equal[V comparable](a, b V) bool { return a == b }

func TestTypes(t *testing.T) {
	type row struct {
		name string
		n    [3]int
	}
	keeps(t, equal[int], 1, -2)
	keeps(t, equal[string], "x", "y")
	keeps(t, equal[bool], true, true)
	keeps(t, equal[row], row{"x", [3]int{1}}, row{"y", [3]int{2}})
	keeps(t, equal[*row], &row{name: "x"}, &row{name: "y"})
	keeps(t, equal[error], errors.New("x"), errors.New("y"))
	keeps(t, equal[any], any(1), any("x"))
	keeps(t, equal[struct{}], struct{}{}, struct{}{})
	keeps(t, slices.Equal[[]int], []int{1, 2}, []int{3})
	keeps(t, func(a, b func() int) bool { return (a == nil) == (b == nil) && (a == nil || a() == b()) }, func() int { return 1 }, func() int { return 2 })
	keeps(t, equal[*order.Map[int]], of("x"), of("y"))
	keeps(t, func(a, b float64) bool { return a == b || a != a && b != b }, math.NaN(), math.Inf(1))
}

func TestListsAreNew(t *testing.T) {
	m := of("a", "b", "c", "d")
	for _, limit := range []int{1, 2, 3, 4, 9} {
		l := m.Keys("", "", limit)
		other := m.Keys("", "", limit)
		want := slices.Clone(l)
		full := l[:cap(l)]
		for i := range full {
			full[i] = "zz"
		}
		if !slices.Equal(other, want) || !slices.Equal(m.Keys("", "", limit), want) || m.Len() != 4 {
			t.Errorf("a list that was written over shows: %q, %q", other, m.Keys("", "", limit))
		}
	}
	l := m.Keys("b", "", 9)
	m.Set("bb", 5)
	m.Cut("c")
	if !slices.Equal(l, []string{"b", "c", "d"}) {
		t.Errorf("a list that was answered changed: %q", l)
	}
}

func TestAnswersAgain(t *testing.T) {
	m := of("b", "a", "c")
	for range 3 {
		v, ok := m.Get("b")
		if v != 0 || !ok || m.Len() != 3 || !slices.Equal(m.Keys("a", "c", 9), []string{"a", "b"}) {
			t.Fatal("asking changes what is answered")
		}
	}
}
