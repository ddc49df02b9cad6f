package pack_test

import (
	"bytes"
	"encoding/binary"
	"math"
	"math/rand"
	"strings"
	"testing"

	"dovecote/api"
	"dovecote/pack"
)

const (
	maxPhys  = uint64(281474976710656)
	maxLogic = uint32(4095)
	most64   = uint64(math.MaxUint64)
)

// form answers the bytes of n, found another way than the program's: the eight bytes of n without the zeros they begin with.
func form(n uint64) string {
	if n < 248 {
		return string([]byte{byte(n)})
	}
	b := bytes.TrimLeft(binary.BigEndian.AppendUint64(nil, n), "\x00")
	return string([]byte{byte(247 + len(b))}) + string(b)
}

// long answers n behind a first byte that says k bytes, be they too many or not.
func long(n uint64, k int) string {
	b := binary.BigEndian.AppendUint64(nil, n)
	return string([]byte{byte(247 + k)}) + string(b[8-k:])
}

// written answers what write has written.
func written(write func(w *pack.Writer)) string {
	var w pack.Writer
	write(&w)
	return w.Bytes()
}

// numbers answers those about each count of bytes, and some within.
func numbers() []uint64 {
	l := []uint64{0, 1, 2, 97, 246, 247, 248, 249, 254, 255, 256, 257, 300, 4095, 4096, maxPhys, maxPhys + 1, most64}
	for k := 8; k < 64; k += 8 {
		n := uint64(1) << k
		l = append(l, n-2, n-1, n, n+1, n|n>>3)
	}
	return l
}

// behind checks what r tells behind a call.
func behind(t *testing.T, what string, r *pack.Reader, err, end api.Errno, left int) {
	t.Helper()
	if r.Err() != err || r.End() != end || r.Left() != left {
		t.Errorf("%q: Err %d, End %d, Left %d instead of %d, %d, %d", what, r.Err(), r.End(), r.Left(), err, end, left)
	}
}

// P2.1

func TestWriterForms(t *testing.T) {
	for n, want := range map[uint64]string{
		0:                  "\x00",
		1:                  "\x01",
		247:                "\xf7",
		248:                "\xf8\xf8",
		255:                "\xf8\xff",
		256:                "\xf9\x01\x00",
		1<<16 - 1:          "\xf9\xff\xff",
		1 << 16:            "\xfa\x01\x00\x00",
		1<<24 - 1:          "\xfa\xff\xff\xff",
		1 << 24:            "\xfb\x01\x00\x00\x00",
		1<<32 - 1:          "\xfb\xff\xff\xff\xff",
		1 << 32:            "\xfc\x01\x00\x00\x00\x00",
		1<<40 - 1:          "\xfc\xff\xff\xff\xff\xff",
		1 << 40:            "\xfd\x01\x00\x00\x00\x00\x00",
		1<<48 - 1:          "\xfd\xff\xff\xff\xff\xff\xff",
		1 << 48:            "\xfe\x01\x00\x00\x00\x00\x00\x00",
		1<<56 - 1:          "\xfe\xff\xff\xff\xff\xff\xff\xff",
		1 << 56:            "\xff\x01\x00\x00\x00\x00\x00\x00\x00",
		0x0102030405060708: "\xff\x01\x02\x03\x04\x05\x06\x07\x08",
		most64:             "\xff\xff\xff\xff\xff\xff\xff\xff\xff",
	} {
		if got := written(func(w *pack.Writer) { w.Number(n) }); got != want {
			t.Errorf("Number(%d): %x", n, got)
		}
	}
	for _, n := range numbers() {
		if got := written(func(w *pack.Writer) { w.Number(n) }); got != form(n) {
			t.Errorf("Number(%d): %x instead of %x", n, got, form(n))
		}
	}
	for _, s := range []string{"", "ab", "\x00", "\xff\xfe", strings.Repeat("x", 247), strings.Repeat("x", 248), strings.Repeat("yz", 40000)} {
		if got := written(func(w *pack.Writer) { w.Text(s) }); got != form(uint64(len(s)))+s {
			t.Errorf("Text of %d bytes: %d bytes, beginning with %x", len(s), len(got), got[:1])
		}
	}
	if got := written(func(w *pack.Writer) { w.Text("ab") }); got != "\x02ab" {
		t.Errorf("Text(ab): %x", got)
	}
	if got := written(func(w *pack.Writer) { w.Flag(false); w.Flag(true); w.Flag(false) }); got != "\x00\x01\x00" {
		t.Errorf("three flags: %x", got)
	}
	for _, c := range []struct {
		t    api.Ts
		want string
	}{
		{api.Ts{}, "\x00\x00"},
		{api.Ts{P: 300, L: 2}, "\xf9\x01\x2c\x02"},
		{api.Ts{P: 2, L: 300}, "\x02\xf9\x01\x2c"},
		{api.Ts{P: maxPhys, L: maxLogic}, "\xfe\x01\x00\x00\x00\x00\x00\x00\xf9\x0f\xff"},
		{api.Ts{P: most64, L: math.MaxUint32}, "\xff\xff\xff\xff\xff\xff\xff\xff\xff\xfb\xff\xff\xff\xff"},
	} {
		if got := written(func(w *pack.Writer) { w.Stamp(c.t) }); got != c.want {
			t.Errorf("Stamp(%v): %x", c.t, got)
		}
	}
}

func TestWriterGoesOn(t *testing.T) {
	w := &pack.Writer{}
	if w.Bytes() != "" {
		t.Errorf("nothing written: %x", w.Bytes())
	}
	w.Text("a")
	early := w.Bytes()
	w.Number(256)
	w.Flag(true)
	w.Stamp(api.Ts{P: 248, L: 1})
	w.Text("")
	if got := w.Bytes(); got != "\x01a\xf9\x01\x00\x01\xf8\xf8\x01\x00" || got != w.Bytes() {
		t.Errorf("%x", got)
	}
	if early != "\x01a" {
		t.Errorf("an earlier answer is now %x", early)
	}
	other := &pack.Writer{}
	other.Number(7)
	if other.Bytes() != "\x07" {
		t.Errorf("another Writer: %x", other.Bytes())
	}
}

func TestNumber(t *testing.T) {
	for _, n := range numbers() {
		for _, tail := range []string{"", "\x00", "\xf8\x05\xff"} {
			r := pack.NewReader(form(n) + tail)
			if got := r.Number(n); got != n {
				t.Errorf("Number(%d) of itself: %d", n, got)
			}
			end := api.OK
			if tail != "" {
				end = api.ErrForm
			}
			behind(t, "number", r, api.OK, end, len(tail))
		}
		if got := pack.NewReader(form(n)).Number(most64); got != n {
			t.Errorf("Number(2^64 - 1) of %d: %d", n, got)
		}
		if n > 0 {
			r := pack.NewReader(form(n) + "\x00")
			if got := r.Number(n - 1); got != 0 {
				t.Errorf("Number(%d) of one above: %d", n-1, got)
			}
			behind(t, "one above most", r, api.ErrMore, api.ErrMore, 0)
		}
	}
}

// wrongNumber checks that s is no number, whatever is the most.
func wrongNumber(t *testing.T, s string, err api.Errno) {
	t.Helper()
	for _, most := range []uint64{0, 247, 256, maxPhys, most64} {
		r := pack.NewReader(s)
		if n := r.Number(most); n != 0 {
			t.Errorf("Number(%d) of %x: %d", most, s, n)
		}
		behind(t, "number", r, err, err, 0)
	}
}

func TestNumberThatCouldBeShorter(t *testing.T) {
	for _, n := range append(numbers(), 5) {
		for k := 1; k <= 8; k++ {
			if k < 8 && n>>(8*k) != 0 || long(n, k) == form(n) {
				continue
			}
			wrongNumber(t, long(n, k), api.ErrForm)
			wrongNumber(t, long(n, k)+"\x07", api.ErrForm)
		}
	}
	wrongNumber(t, "\xf8\x05", api.ErrForm)
	wrongNumber(t, "\xf8\xf7", api.ErrForm)
	wrongNumber(t, "\xf9\x00\xff", api.ErrForm)
}

func TestNumberThatIsCut(t *testing.T) {
	wrongNumber(t, "", api.ErrCut)
	for k := 1; k <= 8; k++ {
		// Those of zeros could be written shorter too: that they are cut stands first.
		for _, fill := range []string{"\x00", "\x01", "\xff"} {
			for have := range k {
				wrongNumber(t, string([]byte{byte(247 + k)})+strings.Repeat(fill, have), api.ErrCut)
			}
		}
	}
}

func TestText(t *testing.T) {
	for _, c := range []struct {
		s           string
		least, most int
		want        string
		err         api.Errno
		left        int
	}{
		{"\x02ab", 0, 2, "ab", api.OK, 0},
		{"\x02ab", 2, 2, "ab", api.OK, 0},
		{"\x02abc", 1, 3, "ab", api.OK, 1},
		{"\x00", 0, 0, "", api.OK, 0},
		{"\x00", 0, 9, "", api.OK, 0},
		{"\x00", -1, 0, "", api.OK, 0},
		{"\x02ab", math.MinInt, math.MaxInt, "ab", api.OK, 0},
		{"\x02\x00\xff", 0, 9, "\x00\xff", api.OK, 0},
		{"\x02ab", 3, 9, "", api.ErrMore, 0},
		{"\x02ab", 0, 1, "", api.ErrMore, 0},
		{"\x02ab", 3, 1, "", api.ErrMore, 0},
		{"\x02ab", 2, 1, "", api.ErrMore, 0},
		{"\x02ab", 3, 2, "", api.ErrMore, 0},
		{"\x02ab", math.MaxInt, math.MinInt, "", api.ErrMore, 0},
		{"\x02ab", 0, -1, "", api.ErrMore, 0},
		{"\x02ab", math.MinInt, math.MinInt, "", api.ErrMore, 0},
		{"\x00", 0, -1, "", api.ErrMore, 0},
		{"\x00", -2, -1, "", api.ErrMore, 0},
		{"\x00", 1, 5, "", api.ErrMore, 0},
		{"\x02a", 0, 2, "", api.ErrCut, 0},
		{"\x02", 0, 2, "", api.ErrCut, 0},
		{"\x01", 1, 1, "", api.ErrCut, 0},
		{"\x02a", 0, 1, "", api.ErrMore, 0}, // ahead of ErrCut
		{"\x02", 3, 9, "", api.ErrMore, 0},
		{"", 0, 9, "", api.ErrCut, 0},
		{"", 1, 0, "", api.ErrCut, 0}, // Number's errors ahead of ErrMore
		{"\xf8", 0, 9, "", api.ErrCut, 0},
		{"\xf8\x02ab", 0, 9, "", api.ErrForm, 0},
		{"\xf8\x02ab", 0, 1, "", api.ErrForm, 0},
		{long(most64, 8) + "ab", 0, math.MaxInt, "", api.ErrMore, 0},
		{long(most64, 8) + "ab", -1, math.MaxInt, "", api.ErrMore, 0},
		{long(most64, 8) + "ab", -1, -1, "", api.ErrMore, 0},
		{long(1<<63, 8) + "ab", math.MinInt, math.MaxInt, "", api.ErrMore, 0},
		{form(math.MaxInt) + "ab", 0, math.MaxInt, "", api.ErrCut, 0},
		{form(math.MaxInt) + "ab", math.MaxInt, math.MaxInt, "", api.ErrCut, 0},
		{form(math.MaxInt) + "ab", 0, math.MaxInt - 1, "", api.ErrMore, 0},
		{form(1<<32) + "ab", 0, 9, "", api.ErrMore, 0},
	} {
		r := pack.NewReader(c.s)
		if got := r.Text(c.least, c.most); got != c.want {
			t.Errorf("Text(%d, %d) of %x: %q", c.least, c.most, c.s, got)
		}
		end := c.err
		if c.left > 0 {
			end = api.ErrForm
		}
		behind(t, "text "+c.s, r, c.err, end, c.left)
	}
}

func TestTextLengths(t *testing.T) {
	for _, n := range []int{1, 32, 247, 248, 255, 256, 257, 16384, 65535, 65536} {
		s := strings.Repeat("q", n)
		b := form(uint64(n)) + s
		if got := pack.NewReader(b).Text(n, n); got != s {
			t.Errorf("%d bytes: %d", n, len(got))
		}
		for _, c := range []struct{ least, most int }{{n + 1, n + 9}, {0, n - 1}} {
			r := pack.NewReader(b)
			if got := r.Text(c.least, c.most); got != "" || r.Err() != api.ErrMore {
				t.Errorf("Text(%d, %d) of %d bytes: %d bytes, error %d", c.least, c.most, n, len(got), r.Err())
			}
		}
		r := pack.NewReader(b[:len(b)-1])
		if got := r.Text(0, n); got != "" || r.Err() != api.ErrCut {
			t.Errorf("%d bytes but one: %d bytes, error %d", n, len(got), r.Err())
		}
	}
}

func TestFlag(t *testing.T) {
	for b := range 256 {
		r := pack.NewReader(string([]byte{byte(b), 1}))
		got := r.Flag()
		if got != (b == 1) {
			t.Errorf("flag of %d: %v", b, got)
		}
		if b > 1 {
			behind(t, "flag", r, api.ErrForm, api.ErrForm, 0)
		} else {
			behind(t, "flag", r, api.OK, api.ErrForm, 1)
		}
	}
	r := pack.NewReader("")
	if r.Flag() {
		t.Error("flag of nothing")
	}
	behind(t, "flag", r, api.ErrCut, api.ErrCut, 0)
}

func TestStamp(t *testing.T) {
	for _, c := range []struct {
		s    string
		want api.Ts
		err  api.Errno
	}{
		{"\x00\x00", api.Ts{}, api.OK},
		{"\x05\x07", api.Ts{P: 5, L: 7}, api.OK},
		{form(300) + form(248), api.Ts{P: 300, L: 248}, api.OK},
		{form(maxPhys-1) + form(4094), api.Ts{P: maxPhys - 1, L: 4094}, api.OK},
		{form(maxPhys) + form(4095), api.Ts{P: maxPhys, L: maxLogic}, api.OK},
		{form(maxPhys) + "\x00", api.Ts{P: maxPhys}, api.OK},
		{"\x00" + form(4095), api.Ts{L: maxLogic}, api.OK},
		{form(maxPhys+1) + form(4095), api.Ts{}, api.ErrMore},
		{form(maxPhys+1) + "\x00", api.Ts{}, api.ErrMore},
		{form(maxPhys) + form(4096), api.Ts{}, api.ErrMore},
		{"\x05" + form(4096), api.Ts{}, api.ErrMore},
		{"\x05" + form(1<<32+7), api.Ts{}, api.ErrMore},
		{"\x05" + form(most64), api.Ts{}, api.ErrMore},
		{form(most64) + "\x07", api.Ts{}, api.ErrMore},
		{"", api.Ts{}, api.ErrCut},
		{"\x05", api.Ts{}, api.ErrCut},
		{"\x05\xf9\x01", api.Ts{}, api.ErrCut},
		{"\xf9\x01", api.Ts{}, api.ErrCut},
		{"\xf8\x05\x07", api.Ts{}, api.ErrForm},
		{"\x05\xf8\x07", api.Ts{}, api.ErrForm},
		{"\xf8\x05\xf9", api.Ts{}, api.ErrForm},           // the first number's error, not the second's
		{form(maxPhys+1) + "\xf8", api.Ts{}, api.ErrMore}, // as above
	} {
		r := pack.NewReader(c.s)
		if got := r.Stamp(); got != c.want {
			t.Errorf("Stamp of %x: %v", c.s, got)
		}
		behind(t, "stamp", r, c.err, c.err, 0)
	}
}

func TestCount(t *testing.T) {
	for _, c := range []struct {
		s    string
		most int
		want int
		err  api.Errno
		left int
	}{
		{"\x03", 3, 3, api.OK, 0},
		{"\x03abc", 9, 3, api.OK, 3},
		{"\x00", 0, 0, api.OK, 0},
		{"\x03", 2, 0, api.ErrMore, 0},
		{"\x01", 0, 0, api.ErrMore, 0},
		{form(256), 256, 256, api.OK, 0},
		{form(257), 256, 0, api.ErrMore, 0},
		{form(math.MaxInt), math.MaxInt, math.MaxInt, api.OK, 0},
		{form(1 << 63), math.MaxInt, 0, api.ErrMore, 0},
		{form(most64), math.MaxInt, 0, api.ErrMore, 0},
		// Below 0 the most is 0.
		{"\x00", -1, 0, api.OK, 0},
		{"\x00\x02", math.MinInt, 0, api.OK, 1},
		{"\x01", -1, 0, api.ErrMore, 0},
		{"\x02", math.MinInt, 0, api.ErrMore, 0},
		{form(most64), -1, 0, api.ErrMore, 0},
		{"", -1, 0, api.ErrCut, 0},
		{"\xf8\x00", -1, 0, api.ErrForm, 0},
		{"", 5, 0, api.ErrCut, 0},
		{"\xf9\x01", 5, 0, api.ErrCut, 0},
		{"\xf8\x03", 5, 0, api.ErrForm, 0},
	} {
		r := pack.NewReader(c.s)
		if got := r.Count(c.most); got != c.want {
			t.Errorf("Count(%d) of %x: %d", c.most, c.s, got)
		}
		end := c.err
		if c.left > 0 {
			end = api.ErrForm
		}
		behind(t, "count", r, c.err, end, c.left)
	}
}

func TestLeftErrEnd(t *testing.T) {
	r := pack.NewReader("\x07\x02ab\x01")
	behind(t, "at the beginning", r, api.OK, api.ErrForm, 5)
	behind(t, "asked once more", r, api.OK, api.ErrForm, 5)
	if n := r.Number(7); n != 7 {
		t.Error(n)
	}
	behind(t, "behind a number", r, api.OK, api.ErrForm, 4)
	if s := r.Text(0, 9); s != "ab" {
		t.Error(s)
	}
	behind(t, "behind a text", r, api.OK, api.ErrForm, 1)
	if !r.Flag() {
		t.Error("flag")
	}
	behind(t, "behind the last byte", r, api.OK, api.OK, 0)
	r.Number(most64)
	behind(t, "past the last byte", r, api.ErrCut, api.ErrCut, 0)
	behind(t, "nothing", pack.NewReader(""), api.OK, api.OK, 0)
}

// takeAll checks that each method of r answers its zero value.
func takeAll(t *testing.T, r *pack.Reader, err api.Errno) {
	t.Helper()
	for range 2 {
		if n := r.Number(most64); n != 0 {
			t.Error("Number", n)
		}
		if s := r.Text(0, 9); s != "" {
			t.Error("Text", s)
		}
		if r.Flag() {
			t.Error("Flag")
		}
		if x := r.Stamp(); x != (api.Ts{}) {
			t.Error("Stamp", x)
		}
		if n := r.Count(9); n != 0 {
			t.Error("Count", n)
		}
		behind(t, "behind an error", r, err, err, 0)
	}
}

func TestErrorStays(t *testing.T) {
	good := strings.Repeat("\x01", 20)
	for _, c := range []struct {
		s    string
		call func(r *pack.Reader)
		err  api.Errno
	}{
		{"\x0b", func(r *pack.Reader) { r.Number(10) }, api.ErrMore},
		{"\xf8\x05", func(r *pack.Reader) { r.Number(10) }, api.ErrForm},
		{"\x02ab", func(r *pack.Reader) { r.Text(3, 9) }, api.ErrMore},
		{"\x16", func(r *pack.Reader) { r.Text(0, 99) }, api.ErrCut},
		{"\x02", func(r *pack.Reader) { r.Flag() }, api.ErrForm},
		{"\x05\xf9\x10\x00", func(r *pack.Reader) { r.Stamp() }, api.ErrMore},
		{"\x05", func(r *pack.Reader) { r.Count(4) }, api.ErrMore},
	} {
		r := pack.NewReader(c.s + good)
		c.call(r)
		behind(t, c.s, r, c.err, c.err, 0)
		takeAll(t, r, c.err)
	}
	r := pack.NewReader("")
	r.Flag()
	takeAll(t, r, api.ErrCut)
}

func TestNil(t *testing.T) {
	var w *pack.Writer
	w.Number(5)
	w.Number(most64)
	w.Text("ab")
	w.Flag(true)
	w.Flag(false)
	w.Stamp(api.Ts{P: 5, L: 7})
	if w.Bytes() != "" {
		t.Errorf("%x", w.Bytes())
	}
	var r *pack.Reader
	behind(t, "nil", r, api.ErrArg, api.ErrArg, 0)
	r.Count(-1)
	r.Text(-1, -1)
	r.Number(0)
	takeAll(t, r, api.ErrArg)
}

// reader is a second Reader, which finds a number by writing all that could stand there.
type reader struct {
	rest string
	err  api.Errno
}

func (m *reader) fail(err api.Errno) {
	m.rest, m.err = "", err
}

func (m *reader) number(most uint64) uint64 {
	if m.err != api.OK {
		return 0
	}
	if m.rest == "" {
		m.fail(api.ErrCut)
		return 0
	}
	var eight [8]byte
	end := 1
	if k := int(m.rest[0]) - 247; k > 0 {
		end += k
		if len(m.rest) < end {
			m.fail(api.ErrCut)
			return 0
		}
		copy(eight[8-k:], m.rest[1:end])
	} else {
		eight[7] = m.rest[0]
	}
	n := binary.BigEndian.Uint64(eight[:])
	switch {
	case form(n) != m.rest[:end]:
		m.fail(api.ErrForm)
		return 0
	case n > most:
		m.fail(api.ErrMore)
		return 0
	}
	m.rest = m.rest[end:]
	return n
}

func (m *reader) text(least, most int) string {
	n := m.number(most64)
	switch {
	case m.err != api.OK:
	case float64(n) < float64(least) || float64(n) > float64(most):
		m.fail(api.ErrMore)
	case float64(n) > float64(len(m.rest)):
		m.fail(api.ErrCut)
	default:
		s := m.rest[:n]
		m.rest = m.rest[n:]
		return s
	}
	return ""
}

func (m *reader) flag() bool {
	switch {
	case m.err != api.OK:
	case m.rest == "":
		m.fail(api.ErrCut)
	case m.rest[0] != 0 && m.rest[0] != 1:
		m.fail(api.ErrForm)
	default:
		b := m.rest[0] != 0
		m.rest = m.rest[1:]
		return b
	}
	return false
}

func (m *reader) stamp() api.Ts {
	x := api.Ts{P: m.number(maxPhys), L: uint32(m.number(uint64(maxLogic)))}
	if m.err != api.OK {
		return api.Ts{}
	}
	return x
}

// step makes the call of that number on both, and tells whether they answer the same.
func step(r *pack.Reader, m *reader, call int) bool {
	same := false
	switch call {
	case 0:
		same = r.Number(most64) == m.number(most64)
	case 1:
		same = r.Number(1) == m.number(1)
	case 2:
		same = r.Text(0, 9) == m.text(0, 9)
	case 3:
		same = r.Text(1, 1) == m.text(1, 1)
	case 4:
		same = r.Flag() == m.flag()
	case 5:
		same = r.Stamp() == m.stamp()
	case 6:
		same = r.Count(300) == int(m.number(300))
	case 7:
		same = r.Count(-1) == int(m.number(0))
	}
	end := m.err
	if end == api.OK && m.rest != "" {
		end = api.ErrForm
	}
	return same && r.Err() == m.err && r.End() == end && r.Left() == len(m.rest)
}

const calls = 8

// readBoth makes all runs of three calls on s.
func readBoth(t *testing.T, s string) {
	t.Helper()
	for run := range calls * calls * calls {
		r, m := pack.NewReader(s), &reader{rest: s}
		for _, call := range []int{run % calls, run / calls % calls, run / calls / calls} {
			if !step(r, m, call) {
				t.Fatalf("%x: calls %o from the right, at %d: Err %d, Left %d instead of %d, %d", s, run, call, r.Err(), r.Left(), m.err, len(m.rest))
			}
		}
	}
}

func TestAnyBytesInAnyOrder(t *testing.T) {
	some := []byte{0, 1, 2, 5, 247, 248, 249, 255}
	all := []string{""}
	for from, size := 0, 0; size < 4; size++ {
		for end := len(all); from < end; from++ {
			for _, b := range some {
				all = append(all, all[from]+string([]byte{b}))
			}
		}
	}
	for _, s := range all {
		readBoth(t, s)
	}
	dice := rand.New(rand.NewSource(2))
	for range 3000 {
		b := make([]byte, dice.Intn(30))
		dice.Read(b)
		for i := range b {
			if dice.Intn(2) == 0 {
				b[i] = some[dice.Intn(len(some))]
			}
		}
		readBoth(t, string(b))
	}
}

func TestReaderKeepsApart(t *testing.T) {
	s := "\x01\x02\x03"
	a, b := pack.NewReader(s), pack.NewReader(s)
	a.Number(0)
	behind(t, "another Reader", b, api.OK, api.ErrForm, 3)
	if n := b.Number(9); n != 1 {
		t.Error(n)
	}
}

// P2.2

// value is one of the forms, as it is written.
type value struct {
	kind int
	n    uint64
	s    string
	b    bool
	t    api.Ts
}

func (v value) write(w *pack.Writer) {
	switch v.kind {
	case 0:
		w.Number(v.n)
	case 1:
		w.Text(v.s)
	case 2:
		w.Flag(v.b)
	case 3:
		w.Stamp(v.t)
	}
}

// read takes what v's kind is.
func (v value) read(r *pack.Reader) value {
	switch v.kind {
	case 0:
		v.n = r.Number(most64)
	case 1:
		v.s = r.Text(0, math.MaxInt)
	case 2:
		v.b = r.Flag()
	case 3:
		v.t = r.Stamp()
	}
	return v
}

// values answers one of each kind at each edge.
func values() []value {
	l := []value{{kind: 2}, {kind: 2, b: true}}
	for _, n := range numbers() {
		l = append(l, value{kind: 0, n: n})
	}
	for _, n := range []int{0, 1, 2, 32, 247, 248, 255, 256, 257, 65535, 65536} {
		l = append(l, value{kind: 1, s: strings.Repeat("\xf8", n)}, value{kind: 1, s: strings.Repeat("a\x00", n)})
	}
	for _, p := range []uint64{0, 1, 247, 248, 1 << 40, maxPhys - 1, maxPhys} {
		for _, n := range []uint32{0, 1, 247, 248, 4094, maxLogic} {
			l = append(l, value{kind: 3, t: api.Ts{P: p, L: n}})
		}
	}
	return l
}

func TestReadAsWritten(t *testing.T) {
	var w pack.Writer
	for _, v := range values() {
		v.write(&w)
		s := written(v.write)
		r := pack.NewReader(s)
		if got := v.read(r); got != v || r.End() != api.OK || r.Left() != 0 {
			t.Errorf("%x: error %d, %d left", s, r.End(), r.Left())
		}
		for n := range min(len(s), 300) {
			r := pack.NewReader(s[:n])
			if got := v.read(r); got != (value{kind: v.kind}) || r.End() != api.ErrCut {
				t.Errorf("%x, %d bytes of it: error %d", s, n, r.End())
			}
		}
		r = pack.NewReader(s + "\x00")
		if got := v.read(r); got != v || r.End() != api.ErrForm || r.Left() != 1 {
			t.Errorf("%x and one byte more: error %d, %d left", s, r.End(), r.Left())
		}
	}
	r := pack.NewReader(w.Bytes())
	for _, v := range values() {
		if v.read(r) != v {
			t.Errorf("in a row: %d", v.kind)
		}
	}
	behind(t, "in a row", r, api.OK, api.OK, 0)
}

func TestReadAsWrittenLists(t *testing.T) {
	l := values()
	dice := rand.New(rand.NewSource(22))
	for range 300 {
		list := make([]value, dice.Intn(9))
		var w pack.Writer
		w.Number(uint64(len(list)))
		for i := range list {
			list[i] = l[dice.Intn(len(l))]
			list[i].write(&w)
		}
		r := pack.NewReader(w.Bytes())
		if n := r.Count(8); n != len(list) {
			t.Fatalf("%d instead of %d", n, len(list))
		}
		for _, v := range list {
			if v.read(r) != v {
				t.Fatalf("a list of %d: another value of kind %d", len(list), v.kind)
			}
		}
		behind(t, "a list", r, api.OK, api.OK, 0)
	}
}

// same checks that s, if it is read whole as kind, is what is written of the value read.
func same(t *testing.T, s string, kind int) {
	t.Helper()
	r := pack.NewReader(s)
	v := value{kind: kind}.read(r)
	if r.End() == api.OK && written(v.write) != s {
		t.Fatalf("%x is read as %x is", s, written(v.write))
	}
}

func TestNoOtherBytesAreReadSo(t *testing.T) {
	for n := range 1 << 16 {
		for kind := range 4 {
			same(t, string([]byte{byte(n)}), kind)
			same(t, string([]byte{byte(n >> 8), byte(n)}), kind)
			same(t, string([]byte{0xf8, byte(n >> 8), byte(n)}), kind)
			same(t, string([]byte{0xf9, byte(n >> 8), byte(n)}), kind)
			same(t, string([]byte{byte(n >> 8), 0xf8, byte(n)}), kind)
			same(t, string([]byte{0xfa, 0, byte(n >> 8), byte(n)}), kind)
		}
	}
	for _, v := range values() {
		s := []byte(written(v.write))
		for i := range min(len(s), 12) {
			for b := range 256 {
				old := s[i]
				s[i] = byte(b)
				same(t, string(s), v.kind)
				s[i] = old
			}
		}
	}
}
