package frame_test

import (
	"encoding/binary"
	"fmt"
	"hash/crc32"
	"math/rand"
	"slices"
	"strings"
	"testing"

	"dovecote/api"
	"dovecote/frame"
)

const maxPayload = 16384

var castagnoli = crc32.MakeTable(crc32.Castagnoli)

// edges are the payloads' lengths at which a length's form or an answer changes.
var edges = []int{0, 1, 2, 246, 247, 248, 249, 254, 255, 256, 257, 300, maxPayload - 1, maxPayload}

// length answers the form of n, a number below 2^24.
func length(n int) string {
	switch {
	case n < 248:
		return string([]byte{byte(n)})
	case n < 1<<8:
		return string([]byte{248, byte(n)})
	case n < 1<<16:
		return string([]byte{249, byte(n >> 8), byte(n)})
	}
	return string([]byte{250, byte(n >> 16), byte(n >> 8), byte(n)})
}

// sealed answers body between a frame's first byte and a right sum, be body a right one or not.
func sealed(body string) string {
	sum := crc32.Checksum([]byte(body), castagnoli)
	return "\xd7" + body + string(binary.LittleEndian.AppendUint32(nil, sum))
}

// framed answers the frame of payload, found another way than the program's, of any length below 2^24.
func framed(payload string) string {
	return sealed(length(len(payload)) + payload)
}

// content answers a payload of n bytes of all kinds.
func content(n int) string {
	b := make([]byte, n)
	for i := range b {
		b[i] = byte(i*167 + i>>8 + n)
	}
	return string(b)
}

// with answers s with the byte b at place i.
func with(s string, i int, b byte) string {
	return s[:i] + string([]byte{b}) + s[i+1:]
}

// told is what Next answers.
type told struct {
	payload string
	taken   int
	err     api.Errno
}

func next(s string) told {
	payload, taken, err := frame.Next(s)
	return told{payload, taken, err}
}

// plain answers what Next should, found byte by byte as the chapter lists the errors.
func plain(s string) told {
	b := []byte(s)
	if len(b) == 0 {
		return told{err: api.ErrCut}
	}
	if b[0] != 0xD7 {
		return told{err: api.ErrForm}
	}
	if len(b) == 1 {
		return told{err: api.ErrCut}
	}
	n, head := uint64(b[1]), 2
	if b[1] > 247 {
		k := int(b[1]) - 247
		if len(b) < 2+k {
			return told{err: api.ErrCut}
		}
		if b[2] == 0 || k == 1 && b[2] < 248 {
			return told{err: api.ErrForm}
		}
		n, head = binary.BigEndian.Uint64(append(make([]byte, 8-k), b[2:2+k]...)), 2+k
	}
	if n > maxPayload {
		return told{err: api.ErrMore}
	}
	end := head + int(n)
	if len(b) < end+4 {
		return told{err: api.ErrCut}
	}
	if crc32.Checksum(b[1:end], castagnoli) != binary.LittleEndian.Uint32(b[end:]) {
		return told{err: api.ErrSum}
	}
	return told{s[head:end], end + 4, api.OK}
}

// short answers s for a failure's message.
func short(s string) string {
	if len(s) > 40 {
		return fmt.Sprintf("%x.. (%d bytes)", s[:40], len(s))
	}
	return fmt.Sprintf("%x", s)
}

// checkNext checks what Next answers of s.
func checkNext(t *testing.T, s string, want told) {
	t.Helper()
	if got := next(s); got != want {
		t.Errorf("Next(%s): %s, %d, %d instead of %s, %d, %d", short(s), short(got.payload), got.taken, got.err, short(want.payload), want.taken, want.err)
	}
}

// checkScan checks what Scan answers of s.
func checkScan(t *testing.T, s string, payloads []string, taken int) {
	t.Helper()
	if got, n := frame.Scan(s); !slices.Equal(got, payloads) || n != taken {
		t.Errorf("Scan(%s): %d payloads, %d instead of %d, %d", short(s), len(got), n, len(payloads), taken)
	}
}

// P3.1

func TestSum(t *testing.T) {
	up, down := make([]byte, 32), make([]byte, 32)
	for i := range up {
		up[i], down[i] = byte(i), byte(31-i)
	}
	for s, want := range map[string]uint32{
		"":                         0,
		"a":                        0xC1D04330,
		"123456789":                0xE3069283,
		strings.Repeat("\x00", 32): 0x8A9136AA,
		strings.Repeat("\xff", 32): 0x62A8AB43,
		string(up):                 0x46DD794E,
		string(down):               0x113FDB5C,
	} {
		if got := frame.Sum(s); got != want {
			t.Errorf("Sum(%x): %X instead of %X", s, got, want)
		}
	}
}

func TestSumAsOtherwiseFound(t *testing.T) {
	check := func(b []byte) {
		t.Helper()
		if got, want := frame.Sum(string(b)), crc32.Checksum(b, castagnoli); got != want {
			t.Errorf("Sum(%s): %X instead of %X", short(string(b)), got, want)
		}
	}
	for i := range 1 << 16 {
		check([]byte{byte(i >> 8), byte(i)})
	}
	for i := range 256 {
		check([]byte{byte(i)})
		check([]byte(strings.Repeat(string([]byte{byte(i)}), i)))
	}
	r := rand.New(rand.NewSource(3))
	for n := range 300 {
		b := make([]byte, n)
		r.Read(b)
		check(b)
	}
	check([]byte(content(100000)))
	check([]byte("ä\x00\xff🕊"))
}

func TestWrap(t *testing.T) {
	for payload, want := range map[string]string{
		"":          "\xd7\x00\x51\x53\x7d\x52",
		"a":         framed("a"),
		"\xd7":      framed("\xd7"),
		"\xff\x00ä": framed("\xff\x00ä"),
	} {
		if got, err := frame.Wrap(payload); got != want || err != api.OK {
			t.Errorf("Wrap(%x): %x, %d instead of %x", payload, got, err, want)
		}
	}
	if got, _ := frame.Wrap("a"); len(got) != 7 || got[:3] != "\xd7\x01a" {
		t.Errorf("Wrap(a): %x", got)
	}
	for _, n := range edges {
		for _, payload := range []string{content(n), strings.Repeat("\x00", n), strings.Repeat("\xd7", n)} {
			if got, err := frame.Wrap(payload); got != framed(payload) || err != api.OK {
				t.Errorf("Wrap of %d bytes: %s, %d instead of %s", n, short(got), err, short(framed(payload)))
			}
		}
	}
}

func TestWrapTooLong(t *testing.T) {
	for _, n := range []int{maxPayload + 1, maxPayload + 2, 1<<16 - 1, 1 << 16, 1 << 20} {
		if got, err := frame.Wrap(content(n)); got != "" || err != api.ErrMore {
			t.Errorf("Wrap of %d bytes: %s, %d", n, short(got), err)
		}
	}
}

func TestNextOfFrames(t *testing.T) {
	for _, n := range edges {
		payload := content(n)
		f := framed(payload)
		for _, tail := range []string{"", "\x00", "\xd7", "\xd7\x00", f, content(500)} {
			checkNext(t, f+tail, told{payload, len(f), api.OK})
		}
	}
}

func TestNextRefuses(t *testing.T) {
	a := framed("a")
	for s, want := range map[string]api.Errno{
		"":                          api.ErrCut,
		"\x00":                      api.ErrForm,
		"a":                         api.ErrForm,
		a[1:]:                       api.ErrForm,
		"\x00" + a:                  api.ErrForm,
		"\xd7":                      api.ErrCut,
		"\xd7" + a:                  api.ErrCut, // a length of 215
		"\xd7\x00":                  api.ErrCut,
		"\xd7\x01":                  api.ErrCut,
		"\xd7\xf7":                  api.ErrCut,
		"\xd7\x01a":                 api.ErrCut,
		"\xd7\x00\x00\x00\x00\x00":  api.ErrSum,
		"\xd7\x01a\x00\x00\x00\x00": api.ErrSum,
		"\xd7\x01b" + a[3:]:         api.ErrSum, // that of another payload
		"\xd7\x01a\x30\x43\xd0\xc1": api.ErrSum, // that of the payload alone
		"\xd7\x00\x52\x7d\x53\x51":  api.ErrSum, // the highest byte first
		"\xd7\x00\xae\xac\x82\xad":  api.ErrSum, // with each bit turned
	} {
		checkNext(t, s, told{err: want})
		checkNext(t, s, plain(s))
	}
}

func TestNextOfOtherFirstBytes(t *testing.T) {
	for _, payload := range []string{"", "a", content(300)} {
		f := framed(payload)
		for b := range 256 {
			if b != 0xD7 {
				checkNext(t, string([]byte{byte(b)}), told{err: api.ErrForm})
				checkNext(t, with(f, 0, byte(b)), told{err: api.ErrForm})
			}
		}
	}
}

// A length's form that isn't right is told as such, with right bytes and a right sum behind it or with none.
func TestNextOfLengthForms(t *testing.T) {
	tail := content(maxPayload + 100)
	for b := 248; b < 256; b++ {
		head := string([]byte{byte(b)})
		for k := range b - 247 {
			checkNext(t, "\xd7"+head+strings.Repeat("\x00", k), told{err: api.ErrCut})
			checkNext(t, "\xd7"+head+strings.Repeat("\xff", k), told{err: api.ErrCut})
		}
		for _, n := range []byte{0, 1, 100, 247} {
			form := head + strings.Repeat("\x00", b-248) + string([]byte{n})
			checkNext(t, "\xd7"+form, told{err: api.ErrForm})
			checkNext(t, sealed(form+tail[:n]), told{err: api.ErrForm})
		}
		if b > 248 {
			form := head + "\x00" + strings.Repeat("\xff", b-248)
			checkNext(t, "\xd7"+form, told{err: api.ErrForm})
			checkNext(t, "\xd7"+form+tail, told{err: api.ErrForm})
		}
	}
}

func TestNextOfGreatLengths(t *testing.T) {
	for _, n := range []int{maxPayload + 1, maxPayload + 2, maxPayload + 256, 1<<15 - 1, 1<<16 - 1, 1 << 16, 1 << 20} {
		checkNext(t, "\xd7"+length(n), told{err: api.ErrMore})
		checkNext(t, framed(content(n)), told{err: api.ErrMore})
	}
	for k := 3; k <= 8; k++ {
		head := "\xd7" + string([]byte{byte(247 + k)})
		for _, form := range []string{"\x01" + strings.Repeat("\x00", k-1), "\x80" + strings.Repeat("\x00", k-1), strings.Repeat("\xff", k)} {
			checkNext(t, head+form, told{err: api.ErrMore})
			checkNext(t, head+form+content(1000), told{err: api.ErrMore})
		}
	}
	checkNext(t, "\xd7"+length(maxPayload), told{err: api.ErrCut})
}

func TestNextOfCutFrames(t *testing.T) {
	for _, n := range edges {
		f := framed(content(n))
		for i := range f {
			checkNext(t, f[:i], told{err: api.ErrCut})
		}
	}
}

// A wrong sum of which not all bytes are there is cut off ahead of being wrong.
func TestNextOfCutWrongSums(t *testing.T) {
	f := framed("abc")
	end := len(f) - 4
	for i := end; i < len(f); i++ {
		for b := range 256 {
			s := f[:end] + strings.Repeat(string([]byte{byte(b)}), i-end)
			checkNext(t, s, told{err: api.ErrCut})
		}
	}
}

func TestNextOfTurnedSums(t *testing.T) {
	for _, n := range edges {
		f := framed(content(n))
		end := len(f) - 4
		for bit := range 32 {
			i := end + bit/8
			s := with(f, i, f[i]^1<<(bit%8))
			checkNext(t, s, told{err: api.ErrSum})
			checkNext(t, s+f, told{err: api.ErrSum})
		}
	}
}

// All texts of four bytes of those that matter, and of frames that were spoilt by chance.
func TestNextAsOtherwiseFound(t *testing.T) {
	kinds := []byte{0, 1, 2, 0x40, 0x52, 0xD6, 0xD7, 246, 247, 248, 249, 250, 251, 254, 255}
	texts := []string{""}
	for range 4 {
		for _, s := range texts {
			checkNext(t, s, plain(s))
			checkNext(t, "\xd7"+s, plain("\xd7"+s))
		}
		var longer []string
		for _, s := range texts {
			for _, b := range kinds {
				longer = append(longer, s+string([]byte{b}))
			}
		}
		texts = longer
	}
	r := rand.New(rand.NewSource(31))
	for range 20000 {
		b := []byte(framed(content(r.Intn(600))) + content(r.Intn(20)))
		for range r.Intn(3) {
			b[r.Intn(min(len(b), 1+r.Intn(len(b))))] = byte(r.Intn(256))
		}
		s := string(b[:len(b)-r.Intn(10)%len(b)])
		checkNext(t, s, plain(s))
	}
}

func TestScan(t *testing.T) {
	a, e, g := framed("a"), framed(""), framed(content(maxPayload))
	checkScan(t, "", nil, 0)
	checkScan(t, "\xd7", nil, 0)
	checkScan(t, "abc", nil, 0)
	checkScan(t, a, []string{"a"}, 7)
	checkScan(t, a+"\xd7", []string{"a"}, 7)
	checkScan(t, a+e+a+a, []string{"a", "", "a", "a"}, 27)
	checkScan(t, e+e+e, []string{"", "", ""}, 18)
	checkScan(t, g+a+g, []string{content(maxPayload), "a", content(maxPayload)}, 2*len(g)+7)
	checkScan(t, framed(a+e), []string{a + e}, len(framed(a+e))) // frames within a payload are none
}

func TestScanEndsAtTheFirstThatIsNone(t *testing.T) {
	a, e := framed("a"), framed("")
	head := a + e + a
	payloads := []string{"a", "", "a"}
	for _, wrong := range []string{
		"\x00",
		"\x00" + a,
		"\xd7",
		"\xd7" + a,
		a[:6],
		a[:6] + a,
		a[:6] + "\x00",
		with(a, 2, 'b') + a,
		with(a, 1, 0) + a,
		sealed("\xf8\x01a") + a,
		framed(content(maxPayload+1)) + a,
		content(1000),
	} {
		checkScan(t, head+wrong, payloads, len(head))
		checkScan(t, wrong, nil, 0)
	}
}

// Each call answers the same of the same, and neither call keeps a list that it has answered.
func TestAnswersAreOwn(t *testing.T) {
	s := framed("a") + framed("b")
	first, _ := frame.Scan(s)
	first[0] = "spoilt"
	first = append(first[:1], "spoilt")
	checkScan(t, s, []string{"a", "b"}, len(s))
	checkNext(t, s, told{"a", 7, api.OK})
}

// P3.2

// checkCuts cuts off the frames of payloads at every place.
func checkCuts(t *testing.T, payloads []string) {
	t.Helper()
	var s string
	ends := []int{0}
	for _, payload := range payloads {
		f, err := frame.Wrap(payload)
		if err != api.OK {
			t.Fatalf("Wrap of %d bytes: %d", len(payload), err)
		}
		s += f
		ends = append(ends, len(s))
	}
	whole := 0
	for i := range len(s) + 1 {
		if whole < len(payloads) && ends[whole+1] <= i {
			whole++
		}
		checkScan(t, s[:i], payloads[:whole], ends[whole])
	}
}

func TestScanOfFramesCutOff(t *testing.T) {
	checkCuts(t, nil)
	checkCuts(t, []string{""})
	checkCuts(t, []string{"", "", "", ""})
	checkCuts(t, []string{"a", "", "bc", "\xd7", "\xd7\x00", framed("a")})
	checkCuts(t, []string{content(247), content(248), content(255), content(256)})
	r := rand.New(rand.NewSource(32))
	for range 30 {
		var payloads []string
		for range r.Intn(8) {
			payloads = append(payloads, content(r.Intn(80)))
		}
		checkCuts(t, payloads)
	}
}

func TestScanOfGreatFramesCutOff(t *testing.T) {
	great := content(maxPayload)
	f, _ := frame.Wrap(great)
	s := f + f + f
	for k := range 3 {
		for _, i := range []int{0, 1, 2, 3, 4, 5, 1000, len(f) / 2, len(f) - 5, len(f) - 4, len(f) - 3, len(f) - 2, len(f) - 1} {
			checkScan(t, s[:k*len(f)+i], []string{great, great, great}[:k], k*len(f))
		}
	}
	checkScan(t, s, []string{great, great, great}, len(s))
}

// P3.3

// checkSpoilt checks that f, a frame, isn't taken whole with another byte at place i, whatever stands behind it.
func checkSpoilt(t *testing.T, f string, i int, tails ...string) {
	t.Helper()
	for b := range 256 {
		if byte(b) == f[i] {
			continue
		}
		for _, tail := range tails {
			s := with(f, i, byte(b)) + tail
			got := next(s)
			if got.err == api.OK && got.taken == len(f) {
				t.Errorf("byte %d as %x of %s: taken whole, as %s", i, b, short(f), short(got.payload))
			}
			if got != plain(s) {
				t.Errorf("byte %d as %x of %s: %d, %d", i, b, short(f), got.taken, got.err)
			}
		}
	}
}

func TestSpoiltFrames(t *testing.T) {
	for _, n := range []int{0, 1, 2, 3, 17, 247, 248, 255, 256} {
		f, _ := frame.Wrap(content(n))
		for i := range f {
			checkSpoilt(t, f, i, f[:i])
		}
	}
	f, _ := frame.Wrap(strings.Repeat("\x00", 256))
	for i := range f {
		checkSpoilt(t, f, i, "")
	}
}

func TestSpoiltGreatFrames(t *testing.T) {
	f, _ := frame.Wrap(content(maxPayload))
	for _, i := range []int{0, 1, 2, 3, 4, 5, 8191, len(f) - 6, len(f) - 5, len(f) - 4, len(f) - 3, len(f) - 2, len(f) - 1} {
		checkSpoilt(t, f, i, "")
	}
	for i := 6; i < len(f); i += 37 {
		s := with(f, i, f[i]^1<<(i%8))
		checkNext(t, s, told{err: api.ErrSum})
	}
}

// Another length may lead to a right sum that stands elsewhere: then another number of bytes is taken.
func TestAnotherLengthTakesAnotherNumber(t *testing.T) {
	inner := framed("abc")
	f, _ := frame.Wrap(inner[2:] + "more") // with 3 for its length it begins with the frame of abc
	checkNext(t, with(f, 1, 3), told{"abc", len(inner), api.OK})
	f, _ = frame.Wrap("abc")
	outer := framed(f[2:] + "more")
	checkNext(t, with(f+"more"+outer[len(outer)-4:], 1, 11), told{f[2:] + "more", len(outer), api.OK})
	for i := range f {
		checkSpoilt(t, f, i, "more"+outer[len(outer)-4:])
	}
}
