package stamp_test

import (
	"math"
	"math/cmplx"
	"regexp"
	"slices"
	"strconv"
	"strings"
	"testing"

	"dovecote/api"
	"dovecote/stamp"
)

const (
	maxPhys  = uint64(281474976710656)
	maxLogic = uint32(4095)
)

var greatest = api.Ts{P: maxPhys, L: maxLogic}

// parts answers stamps of all pairs of the parts at and about the limits, and of some within.
func parts() []api.Ts {
	phys := []uint64{0, 1, 2, 5, 6, 900, 1<<32 - 1, 1 << 32, 1<<47 + 1, maxPhys - 1, maxPhys, maxPhys + 1, 1 << 63, math.MaxUint64}
	logic := []uint32{0, 1, 7, 10, 4094, maxLogic, maxLogic + 1, 1 << 31, math.MaxUint32}
	var l []api.Ts
	for _, p := range phys {
		for _, n := range logic {
			l = append(l, api.Ts{P: p, L: n})
		}
	}
	return l
}

// rights answers those of parts that are right.
func rights() []api.Ts {
	return slices.DeleteFunc(parts(), func(t api.Ts) bool { return t.P > maxPhys || t.L > maxLogic })
}

// P1.1

func TestRight(t *testing.T) {
	for _, c := range []struct {
		t    api.Ts
		want bool
	}{
		{api.Ts{}, true},
		{api.Ts{P: 5, L: 7}, true},
		{api.Ts{P: maxPhys}, true},
		{api.Ts{L: maxLogic}, true},
		{greatest, true},
		{api.Ts{P: maxPhys + 1}, false},
		{api.Ts{L: maxLogic + 1}, false},
		{api.Ts{P: maxPhys + 1, L: maxLogic + 1}, false},
		{api.Ts{P: maxPhys, L: maxLogic + 1}, false},
		{api.Ts{P: math.MaxUint64}, false},
		{api.Ts{L: math.MaxUint32}, false},
		{api.Ts{P: math.MaxUint64, L: math.MaxUint32}, false},
	} {
		if got := stamp.Right(c.t); got != c.want {
			t.Errorf("Right(%v) = %v", c.t, got)
		}
	}
}

func TestLess(t *testing.T) {
	for _, c := range []struct {
		a, b api.Ts
		want bool
	}{
		{api.Ts{}, api.Ts{}, false},
		{api.Ts{}, api.Ts{L: 1}, true},
		{api.Ts{L: 1}, api.Ts{}, false},
		{api.Ts{P: 5, L: 7}, api.Ts{P: 5, L: 8}, true},
		{api.Ts{P: 5, L: 4095}, api.Ts{P: 6}, true},
		{api.Ts{P: 6}, api.Ts{P: 5, L: 4095}, false},
		{api.Ts{P: 5, L: 7}, api.Ts{P: 5, L: 7}, false},
		{api.Ts{P: 5, L: math.MaxUint32}, api.Ts{P: 6}, true},
		{greatest, api.Ts{P: maxPhys, L: maxLogic + 1}, true},
		{api.Ts{P: maxPhys + 1}, greatest, false},
		{api.Ts{P: 1 << 63}, api.Ts{P: 1}, false},
		{api.Ts{L: 1 << 31}, api.Ts{L: 1}, false},
		{api.Ts{P: math.MaxUint64, L: math.MaxUint32 - 1}, api.Ts{P: math.MaxUint64, L: math.MaxUint32}, true},
	} {
		if got := stamp.Less(c.a, c.b); got != c.want {
			t.Errorf("Less(%v, %v) = %v", c.a, c.b, got)
		}
	}
}

func TestMax(t *testing.T) {
	a, b, c := api.Ts{P: 5, L: 4095}, api.Ts{P: 6}, api.Ts{P: 6, L: 1}
	for _, k := range []struct {
		l    []api.Ts
		want api.Ts
	}{
		{nil, api.Ts{}},
		{[]api.Ts{}, api.Ts{}},
		{[]api.Ts{{}}, api.Ts{}},
		{[]api.Ts{a}, a},
		{[]api.Ts{a, b, c}, c},
		{[]api.Ts{c, b, a}, c},
		{[]api.Ts{b, c, a}, c},
		{[]api.Ts{a, b, {}}, b},
		{[]api.Ts{b, b}, b},
		{[]api.Ts{greatest, {P: maxPhys + 1}, a}, api.Ts{P: maxPhys + 1}},
		{[]api.Ts{greatest, {P: maxPhys, L: maxLogic + 1}}, api.Ts{P: maxPhys, L: maxLogic + 1}},
	} {
		given := slices.Clone(k.l)
		if got := stamp.Max(k.l...); got != k.want {
			t.Errorf("Max(%v) = %v", k.l, got)
		}
		if !slices.Equal(given, k.l) {
			t.Errorf("Max has changed its list to %v", k.l)
		}
	}
	if got := stamp.Max(); got != (api.Ts{}) {
		t.Errorf("Max() = %v", got)
	}
	if got := stamp.Max(a, c, b); got != c {
		t.Errorf("Max(a, c, b) = %v", got)
	}
}

func TestNext(t *testing.T) {
	for _, c := range []struct {
		t, want api.Ts
		err     api.Errno
	}{
		{api.Ts{}, api.Ts{L: 1}, api.OK},
		{api.Ts{P: 5, L: 7}, api.Ts{P: 5, L: 8}, api.OK},
		{api.Ts{P: 5, L: 4094}, api.Ts{P: 5, L: 4095}, api.OK},
		{api.Ts{P: 5, L: 4095}, api.Ts{P: 6}, api.OK},
		{api.Ts{P: maxPhys - 1, L: maxLogic}, api.Ts{P: maxPhys}, api.OK},
		{api.Ts{P: maxPhys}, api.Ts{P: maxPhys, L: 1}, api.OK},
		{api.Ts{P: maxPhys, L: maxLogic - 1}, greatest, api.OK},
		{greatest, api.Ts{}, api.ErrOver},
		{api.Ts{P: maxPhys + 1}, api.Ts{}, api.ErrArg},
		{api.Ts{L: maxLogic + 1}, api.Ts{}, api.ErrArg},
		{api.Ts{P: maxPhys, L: maxLogic + 1}, api.Ts{}, api.ErrArg},
		{api.Ts{P: maxPhys + 1, L: maxLogic}, api.Ts{}, api.ErrArg},
		{api.Ts{P: math.MaxUint64, L: math.MaxUint32}, api.Ts{}, api.ErrArg},
	} {
		if got, err := stamp.Next(c.t); got != c.want || err != c.err {
			t.Errorf("Next(%v) = %v, %v", c.t, got, err)
		}
	}
}

func TestText(t *testing.T) {
	for _, c := range []struct {
		t    api.Ts
		want string
	}{
		{api.Ts{}, "0.0"},
		{api.Ts{P: 5, L: 7}, "5.7"},
		{api.Ts{P: 10, L: 100}, "10.100"},
		{greatest, "281474976710656.4095"},
		{api.Ts{P: maxPhys + 1, L: maxLogic + 1}, "281474976710657.4096"},
		{api.Ts{P: math.MaxUint64, L: math.MaxUint32}, "18446744073709551615.4294967295"},
	} {
		if got := stamp.Text(c.t); got != c.want {
			t.Errorf("Text(%v) = %q", c.t, got)
		}
	}
}

func TestRead(t *testing.T) {
	for _, c := range []struct {
		s    string
		want api.Ts
	}{
		{"0.0", api.Ts{}},
		{"5.7", api.Ts{P: 5, L: 7}},
		{"0.4095", api.Ts{L: maxLogic}},
		{"281474976710656.0", api.Ts{P: maxPhys}},
		{"281474976710656.4095", greatest},
	} {
		if got, err := stamp.Read(c.s); got != c.want || err != api.OK {
			t.Errorf("Read(%q) = %v, %v", c.s, got, err)
		}
	}
}

func TestReadRefuses(t *testing.T) {
	for _, s := range []string{
		"", ".", "5", "5.", ".7", "57", "5.7.", "5..7", ".5.7", "5.7.0", "5,7", "5:7",
		"05.7", "5.07", "00.0", "0.00", "00.00", "5.00", "-0.0", "0.-0",
		"281474976710657.0", "5.4096", "281474976710657.4096", "281474976710656.4096",
		"18446744073709551615.0", "18446744073709551616.0", "18446744073709551621.7", "99999999999999999999999.0",
		"5.4294967295", "5.4294967296", "5.4294967303", "5.18446744073709551623",
		"+5.7", "5.+7", "-5.7", "5.-7", " 5.7", "5.7 ", "5 .7", "5. 7", "5.7\n", "\x005.7", "5.7\x00", "5\x00.7",
		"0x5.7", "5.0x7", "5_0.7", "5.1_0", "5e0.7", "5.7e0", "a.b", "5.a", "NaN.0", "Inf.0",
		"5.7i", "\u0665.\u0667", "\uff15.7", "\xff.7", "5\u30027",
		strings.Repeat("0", 100000) + "5.7", strings.Repeat("9", 100000) + ".7", "5." + strings.Repeat("0", 100000), strings.Repeat(".", 1000),
	} {
		if got, err := stamp.Read(s); got != (api.Ts{}) || err != api.ErrForm {
			t.Errorf("Read(%.40q) = %v, %v", s, got, err)
		}
	}
}

// TestReadShortTexts holds Read against a form said another way, over all short texts of a few bytes.
func TestReadShortTexts(t *testing.T) {
	form := regexp.MustCompile(`^(0|[1-9][0-9]*)\.(0|[1-9][0-9]*)$`)
	texts := []string{""}
	for range 5 {
		var longer []string
		for _, s := range texts {
			for _, c := range "0149.+-_ x" {
				longer = append(longer, s+string(c))
			}
		}
		texts = longer
		for _, s := range texts {
			var want api.Ts
			wantErr := api.ErrForm
			if m := form.FindStringSubmatch(s); m != nil {
				p, _ := strconv.Atoi(m[1])
				l, _ := strconv.Atoi(m[2])
				want, wantErr = api.Ts{P: uint64(p), L: uint32(l)}, api.OK
			}
			if got, err := stamp.Read(s); got != want || err != wantErr {
				t.Fatalf("Read(%q) = %v, %v", s, got, err)
			}
		}
	}
}

func TestPoint(t *testing.T) {
	for _, c := range []struct {
		t    api.Ts
		want complex128
	}{
		{api.Ts{}, 0},
		{api.Ts{P: 5, L: 7}, 5 + 7i},
		{api.Ts{L: maxLogic}, 4095i},
		{api.Ts{P: maxPhys}, 281474976710656},
		{api.Ts{P: maxPhys - 1, L: 1}, 281474976710655 + 1i},
		{greatest, 281474976710656 + 4095i},
		{api.Ts{P: maxPhys + 1}, 0},
		{api.Ts{P: maxPhys + 1, L: 7}, 0},
		{api.Ts{L: maxLogic + 1}, 0},
		{api.Ts{P: 5, L: maxLogic + 1}, 0},
		{api.Ts{P: math.MaxUint64, L: math.MaxUint32}, 0},
	} {
		if got := stamp.Point(c.t); got != c.want {
			t.Errorf("Point(%v) = %v", c.t, got)
		}
	}
}

func TestOf(t *testing.T) {
	minus := math.Copysign(0, -1)
	for _, c := range []struct {
		z    complex128
		want api.Ts
	}{
		{0, api.Ts{}},
		{5 + 7i, api.Ts{P: 5, L: 7}},
		{4095i, api.Ts{L: maxLogic}},
		{281474976710656, api.Ts{P: maxPhys}},
		{281474976710656 + 4095i, greatest},
		{complex(minus, 0), api.Ts{}},
		{complex(0, minus), api.Ts{}},
		{complex(minus, minus), api.Ts{}},
		{complex(minus, 7), api.Ts{L: 7}},
		{complex(5, minus), api.Ts{P: 5}},
	} {
		if got, err := stamp.Of(c.z); got != c.want || err != api.OK {
			t.Errorf("Of(%v) = %v, %v", c.z, got, err)
		}
	}
}

// TestOfRefuses lays each wrong part once as real part, once as imaginary part, beside parts that are right and parts that aren't.
func TestOfRefuses(t *testing.T) {
	wrong := []float64{
		0.5, 5.5, 4094.5, math.Nextafter(1, 0), math.Nextafter(1, 2), math.SmallestNonzeroFloat64, -math.SmallestNonzeroFloat64,
		-0.5, -1, -5, -4095, -281474976710656, -math.MaxFloat64,
		281474976710657, math.Nextafter(281474976710656, math.Inf(1)), math.Nextafter(281474976710656, 0),
		1 << 62, 1 << 63, 1 << 64, 1<<64 + 1<<20, math.MaxFloat64, math.Inf(1), math.Inf(-1), math.NaN(),
	}
	wrongLogic := append([]float64{4096, math.Nextafter(4095, 5000), 4095.5, 1 << 31, 1 << 32, 1<<32 + 7, 281474976710656}, wrong...)
	refused := func(z complex128) {
		t.Helper()
		if got, err := stamp.Of(z); got != (api.Ts{}) || err != api.ErrForm {
			t.Errorf("Of(%v) = %v, %v", z, got, err)
		}
	}
	for _, x := range wrong {
		for _, y := range []float64{0, 7, 4095} {
			refused(complex(x, y))
		}
		for _, y := range wrongLogic {
			refused(complex(x, y))
		}
	}
	for _, y := range wrongLogic {
		for _, x := range []float64{0, 5, 281474976710656} {
			refused(complex(x, y))
		}
	}
	refused(cmplx.NaN())
	refused(cmplx.Inf())
}

// P1.2

func TestReadOfText(t *testing.T) {
	for _, x := range parts() {
		want, wantErr := x, api.OK
		if x.P > maxPhys || x.L > maxLogic {
			want, wantErr = api.Ts{}, api.ErrForm
		}
		if got, err := stamp.Read(stamp.Text(x)); got != want || err != wantErr {
			t.Errorf("Read(Text(%v)) = %v, %v", x, got, err)
		}
	}
}

func TestOfOfPoint(t *testing.T) {
	for _, x := range rights() {
		if got, err := stamp.Of(stamp.Point(x)); got != x || err != api.OK {
			t.Errorf("Of(Point(%v)) = %v, %v", x, got, err)
		}
	}
}

// TestRoundTrips goes through stamps spread over the whole range by a fixed rule.
func TestRoundTrips(t *testing.T) {
	n := uint64(88172645463325252)
	for range 20000 {
		n ^= n << 13
		n ^= n >> 7
		n ^= n << 17
		x := api.Ts{P: (n >> 12) >> (n % 48) % (maxPhys + 1), L: uint32(n>>40) % (maxLogic + 1)}
		if got, err := stamp.Read(stamp.Text(x)); got != x || err != api.OK {
			t.Fatalf("Read(Text(%v)) = %v, %v", x, got, err)
		}
		if got, err := stamp.Of(stamp.Point(x)); got != x || err != api.OK {
			t.Fatalf("Of(Point(%v)) = %v, %v", x, got, err)
		}
	}
}

func TestLessIsStrictOrder(t *testing.T) {
	l := parts()
	for _, a := range l {
		if stamp.Less(a, a) {
			t.Errorf("%v is below itself", a)
		}
		for _, b := range l {
			if a != b && stamp.Less(a, b) == stamp.Less(b, a) {
				t.Errorf("%v and %v: not just one is below the other", a, b)
			}
			for _, c := range l {
				if stamp.Less(a, b) && stamp.Less(b, c) && !stamp.Less(a, c) {
					t.Fatalf("%v below %v below %v, but the first not below the last", a, b, c)
				}
			}
		}
	}
}

func TestNextIsLeastAbove(t *testing.T) {
	l := rights()
	for _, a := range l {
		n, err := stamp.Next(a)
		if a == greatest {
			continue
		}
		if err != api.OK || !stamp.Right(n) || !stamp.Less(a, n) {
			t.Errorf("Next(%v) = %v, %v", a, n, err)
		}
		for _, b := range l {
			if stamp.Less(a, b) && stamp.Less(b, n) {
				t.Errorf("Next(%v) = %v, but %v is between", a, n, b)
			}
		}
	}
}

// TestNextGoesThroughAll counts every right stamp of a few physical parts, and of the last ones.
func TestNextGoesThroughAll(t *testing.T) {
	for _, first := range []uint64{0, 1<<32 - 1, maxPhys - 2} {
		at := api.Ts{P: first}
		for p := first; p <= first+2; p++ {
			for l := range maxLogic + 1 {
				if at != (api.Ts{P: p, L: l}) {
					t.Fatalf("%v where %d.%d was to come", at, p, l)
				}
				at, _ = stamp.Next(at)
			}
		}
	}
}
