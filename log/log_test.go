package log_test

import (
	"encoding/binary"
	"fmt"
	"hash/crc32"
	"math"
	"math/rand"
	"slices"
	"strings"
	"testing"

	"dovecote/api"
	"dovecote/drum"
	"dovecote/log"
)

const (
	maxRecord  = 16000
	maxPayload = 16384
	maxRoom    = 1048576
	emptySize  = 15 // bytes of an empty log of a generation below 248
)

// all is a fall that keeps all that is pending.
var all = []int{math.MaxInt, math.MaxInt, math.MaxInt, math.MaxInt}

// form answers the bytes of a number, written from the chapter of pack.
func form(n uint64) string {
	if n < 248 {
		return string([]byte{byte(n)})
	}
	b := binary.BigEndian.AppendUint64(nil, n)
	for b[0] == 0 {
		b = b[1:]
	}
	return string([]byte{byte(247 + len(b))}) + string(b)
}

// framed answers the frames of these payloads, written from the chapter of frame.
func framed(payloads ...string) string {
	s := ""
	for _, p := range payloads {
		body := form(uint64(len(p))) + p
		sum := crc32.Checksum([]byte(body), crc32.MakeTable(crc32.Castagnoli))
		s += "\xd7" + body + string(binary.LittleEndian.AppendUint32(nil, sum))
	}
	return s
}

// logOf answers the bytes of a log of this generation, with records that were laid anew.
func logOf(gen uint64, copied ...string) string {
	s := framed("G" + form(gen))
	for _, r := range copied {
		s += framed("C" + r)
	}
	return s + framed("E")
}

// appended answers the bytes of records that were appended.
func appended(records ...string) string {
	s := ""
	for _, r := range records {
		s += framed("R" + r)
	}
	return s
}

// made answers an empty drum.
func made(t *testing.T, room int) *drum.Drum {
	t.Helper()
	d, err := drum.New(room)
	if err != api.OK {
		t.Fatalf("New(%d): %d", room, err)
	}
	return d
}

// fine checks that no call was refused.
func fine(t *testing.T, calls ...api.Errno) {
	t.Helper()
	for i, err := range calls {
		if err != api.OK {
			t.Fatalf("call %d: %d", i, err)
		}
	}
}

// refused checks that a call was refused by want.
func refused(t *testing.T, what string, err, want api.Errno) {
	t.Helper()
	if err != want {
		t.Errorf("%s: %d instead of %d", what, err, want)
	}
}

// fill lays an area with these bytes, all of them sure.
func fill(t *testing.T, d *drum.Drum, area int, bytes string) {
	t.Helper()
	fine(t, d.Lay(area), d.Write(area, bytes), d.Sync(area))
}

// short answers s for a failure's message.
func short(s string) string {
	if len(s) > 60 {
		return fmt.Sprintf("%q.. (%d bytes)", s[:60], len(s))
	}
	return fmt.Sprintf("%q", s)
}

// list answers records for a failure's message.
func list(records []string) string {
	var s []string
	for _, r := range records {
		s = append(s, short(r))
	}
	return fmt.Sprint(s)
}

// opened checks that the drum holds a log of these records.
func opened(t *testing.T, d *drum.Drum, want ...string) *log.Log {
	t.Helper()
	l, got, err := log.Open(d)
	if l == nil || err != api.OK {
		t.Fatalf("Open: %v, %d", l, err)
	}
	if !slices.Equal(got, want) {
		t.Fatalf("Open: records %s instead of %s", list(got), list(want))
	}
	return l
}

// notOpened checks that Open answers want and nothing beside it.
func notOpened(t *testing.T, d *drum.Drum, want api.Errno) {
	t.Helper()
	if l, records, err := log.Open(d); l != nil || len(records) > 0 || err != want {
		t.Errorf("Open: %v, %s, %d instead of %d", l, list(records), err, want)
	}
}

// is checks a log's generation and size.
func is(t *testing.T, l *log.Log, gen uint64, size int) {
	t.Helper()
	if l.Gen() != gen || l.Size() != size {
		t.Errorf("Gen %d, Size %d instead of %d, %d", l.Gen(), l.Size(), gen, size)
	}
}

// image answers what stands in which areas of a drum that is up.
func image(d *drum.Drum) map[int]string {
	held := map[int]string{}
	for area := -1; area < 6; area++ {
		if s, err := d.Read(area); err == api.OK {
			held[area] = s
		}
	}
	return held
}

// holds checks that a drum that is up has these areas and no others.
func holds(t *testing.T, d *drum.Drum, want map[int]string) {
	t.Helper()
	if d.Down() {
		t.Fatal("the drum is down")
	}
	got := image(d)
	for area := range 4 {
		a, there := got[area]
		b, should := want[area]
		if there != should || a != b {
			t.Errorf("area %d: %v %s instead of %v %s", area, there, short(a), should, short(b))
		}
	}
}

// holdsSure checks the same, and that a fall takes nothing of it.
func holdsSure(t *testing.T, d *drum.Drum, want map[int]string) {
	t.Helper()
	holds(t, d, want)
	d.Fall(nil)
	holds(t, d, want)
}

// stands checks whether the drum is down.
func stands(t *testing.T, d *drum.Drum, down bool) {
	t.Helper()
	if d.Down() != down {
		t.Errorf("Down: %v", d.Down())
	}
}

// long answers a record of n bytes that has all kinds of them.
func long(n int) string {
	b := make([]byte, n)
	for i := range b {
		b[i] = byte(i*7 + i>>8)
	}
	return string(b)
}

// P5.1

// The examples of the chapter.
func TestExamples(t *testing.T) {
	d := made(t, 1000)
	l := opened(t, d)
	fine(t, l.Append("a"), l.Append("b"))
	d.Fall(nil)
	l = opened(t, d, "a", "b")
	fine(t, l.Renew([]string{"x"}), l.Append("c"))
	opened(t, d, "x", "c")
}

func TestOpenOfANilDrum(t *testing.T) {
	notOpened(t, nil, api.ErrDown)
}

func TestOpenOfADrumThatIsDown(t *testing.T) {
	images := []map[int]string{
		{},
		{0: ""},
		{2: "junk"},
		{0: logOf(1)},
		{3: logOf(7, "a") + appended("b")},
		{0: logOf(1), 1: logOf(2) + "tail", 2: "", 3: "x"},
	}
	for _, held := range images {
		d := made(t, 1000)
		for area, s := range held {
			fill(t, d, area, s)
		}
		d.Fuel(0)
		refused(t, "a step without fuel", takeDown(d), api.ErrDown)
		for range 2 {
			notOpened(t, d, api.ErrDown)
			stands(t, d, true)
		}
		d.Fall(nil)
		holds(t, d, held)
	}
}

// takeDown does a step for which there is no fuel.
func takeDown(d *drum.Drum) api.Errno {
	for area := range 4 {
		if d.Has(area) {
			return d.Sync(area)
		}
	}
	return d.Lay(0)
}

func TestOpenOfAnEmptyDrum(t *testing.T) {
	d := made(t, emptySize)
	l := opened(t, d)
	is(t, l, 1, emptySize)
	if empty := logOf(1); len(empty) != emptySize || empty[:4] != "\xd7\x02G\x01" || empty[8:11] != "\xd7\x01E" {
		t.Fatalf("the test's own empty log: %q", empty)
	}
	holdsSure(t, d, map[int]string{0: logOf(1)})
	is(t, opened(t, d), 1, emptySize)
}

func TestOpenOfAnEmptyDrumByItsSteps(t *testing.T) {
	empty := logOf(1)
	for keep := -1; keep <= len(empty)+1; keep++ {
		d := made(t, 1000)
		d.Fuel(0)
		notOpened(t, d, api.ErrDown)
		stands(t, d, true)
		d.Fall([]int{keep})
		holds(t, d, map[int]string{})

		d.Fuel(1)
		notOpened(t, d, api.ErrDown)
		d.Fall([]int{keep})
		holds(t, d, map[int]string{0: ""})
		fine(t, d.Cut(0))

		d.Fuel(2) // both frames are pending as one
		notOpened(t, d, api.ErrDown)
		d.Fall([]int{keep})
		holds(t, d, map[int]string{0: empty[:min(max(keep, 0), len(empty))]})
		is(t, opened(t, d), 1, emptySize)
		holdsSure(t, d, map[int]string{0: empty})
	}
	d := made(t, 1000)
	d.Fuel(3)
	opened(t, d)
	stands(t, d, false)
	refused(t, "a fourth step", d.Sync(0), api.ErrDown)
}

func TestOpenInTooSmallARoom(t *testing.T) {
	for room := range emptySize {
		d := made(t, room)
		for range 2 {
			notOpened(t, d, api.ErrFull)
			holds(t, d, map[int]string{0: ""}) // it was laid
		}
	}
	d := made(t, emptySize-1)
	fill(t, d, 2, "junk")
	fill(t, d, 3, "")
	notOpened(t, d, api.ErrFull)
	holds(t, d, map[int]string{0: ""})
}

// held is a case of an area's bytes: a log, or none.
type held struct {
	name    string
	bytes   string
	log     bool
	gen     uint64
	records []string
	behind  int // bytes behind its end
}

// cases answers areas of all kinds.
func cases() []held {
	g, e := framed("G\x05"), framed("E")
	spoilt := []byte(framed("Rab"))
	spoilt[3] ^= 1
	c := []held{
		{name: "nothing", bytes: ""},
		{name: "junk", bytes: "junk"},
		{name: "a frame's mark", bytes: "\xd7"},
		{name: "G alone", bytes: g},
		{name: "E alone", bytes: e},
		{name: "R alone", bytes: framed("Ra")},
		{name: "C alone", bytes: framed("Ca")},
		{name: "no G", bytes: framed("Ca", "E", "Rb")},
		{name: "E ahead of G", bytes: e + g + e},
		{name: "no E", bytes: g + framed("Ca", "Cb")},
		{name: "no E, but R", bytes: g + framed("Ca", "Rb")},
		{name: "R ahead of E", bytes: g + framed("Ra", "E")},
		{name: "R between C and E", bytes: g + framed("Ca", "Rb", "E")},
		{name: "R between C and C", bytes: g + framed("Ca", "Rb", "Cc", "E")},
		{name: "G twice ahead of E", bytes: g + g + e},
		{name: "G between C and E", bytes: g + framed("Ca") + g + e},
		{name: "an empty payload first", bytes: framed("") + g + e},
		{name: "an empty payload ahead of E", bytes: g + framed("") + e},
		{name: "a zero byte ahead of E", bytes: g + framed("\x00a") + e},
		{name: "another kind ahead of E", bytes: g + framed("Xa") + e},
		{name: "small letters", bytes: framed("g\x05", "e")},
		{name: "a small e", bytes: g + framed("e")},
		{name: "a small c", bytes: g + framed("ca") + e},
		{name: "E with something", bytes: g + framed("E\x00")},
		{name: "E with something, then E", bytes: g + framed("Ex", "E")},
		{name: "EE", bytes: g + framed("EE")},
		{name: "junk ahead of G", bytes: "x" + g + e},
		{name: "junk ahead of E", bytes: g + "x" + e},
		{name: "junk behind C", bytes: g + framed("Ca") + "x" + e},
		{name: "a spoilt frame ahead of E", bytes: g + string(spoilt) + e},
		{name: "G without a number", bytes: framed("G", "E")},
		{name: "G with two numbers", bytes: framed("G\x05\x06", "E")},
		{name: "G with a number that is cut", bytes: framed("G\xf8", "E")},
		{name: "G with a longer one that is cut", bytes: framed("G\xff1234567", "E")},
		{name: "G with a number that could be shorter", bytes: framed("G\xf8\x05", "E")},
		{name: "G with a longer one that could be shorter", bytes: framed("G\xf9\x00\xff", "E")},
		{name: "G with a number and a text", bytes: framed("G\x05x", "E")},

		{name: "an empty log", bytes: g + e, log: true, gen: 5},
		{name: "generation 0", bytes: logOf(0), log: true, gen: 0},
		{name: "generation 247", bytes: logOf(247), log: true, gen: 247},
		{name: "generation 248", bytes: logOf(248), log: true, gen: 248},
		{name: "generation 2^32", bytes: logOf(1 << 32), log: true, gen: 1 << 32},
		{name: "generation 2^63", bytes: logOf(1 << 63), log: true, gen: 1 << 63},
		{name: "the greatest generation", bytes: logOf(math.MaxUint64), log: true, gen: math.MaxUint64},
		{name: "a C", bytes: logOf(5, "a"), log: true, gen: 5, records: []string{"a"}},
		{name: "an R", bytes: logOf(5) + appended("a"), log: true, gen: 5, records: []string{"a"}},
		{name: "both", bytes: logOf(5, "a", "b") + appended("c", "d"), log: true, gen: 5, records: []string{"a", "b", "c", "d"}},
		{name: "records that are equal", bytes: logOf(5, "a", "a") + appended("a", "a"), log: true, gen: 5, records: []string{"a", "a", "a", "a"}},
		{name: "empty records", bytes: logOf(5, "", "") + appended("", ""), log: true, gen: 5, records: []string{"", "", "", ""}},
		{name: "records like payloads", bytes: logOf(5, "E", "G\x05", "C") + appended("R", "E"), log: true, gen: 5, records: []string{"E", "G\x05", "C", "R", "E"}},
		{name: "records like frames", bytes: logOf(5, e, "\xd7") + appended(g+e), log: true, gen: 5, records: []string{e, "\xd7", g + e}},
		{name: "greatest records", bytes: logOf(5, long(maxRecord)) + appended(long(maxRecord)), log: true, gen: 5, records: []string{long(maxRecord), long(maxRecord)}},
		{name: "longer ones", bytes: logOf(5, long(maxRecord+1)) + appended(long(maxRecord+2)), log: true, gen: 5, records: []string{long(maxRecord + 1), long(maxRecord + 2)}},
		{name: "the longest", bytes: logOf(5, long(maxPayload-1), "") + appended(long(maxPayload-1), "x"), log: true, gen: 5, records: []string{long(maxPayload - 1), "", long(maxPayload - 1), "x"}},
	}
	behind := []struct{ name, bytes string }{
		{"a byte", "x"},
		{"a mark", "\xd7"},
		{"E", e},
		{"G", g},
		{"C", framed("Cz")},
		{"an empty payload", framed("")},
		{"a zero byte", framed("\x00z")},
		{"another kind", framed("Xz")},
		{"a small r", framed("rz")},
		{"a whole log", logOf(9, "z") + appended("y")},
		{"a cut R", framed("Rzz")[:6]},
		{"an R without its last byte", framed("Rz")[:7]},
		{"a spoilt R", string(spoilt)},
		{"a C and an R", framed("Cz", "Ry")},
		{"a byte and an R", "x" + framed("Rz")},
		{"one too long", "\xd7" + form(maxPayload+1) + "R" + long(maxPayload) + "1234"},
	}
	for _, b := range behind {
		c = append(c,
			held{name: b.name + " behind E", bytes: logOf(6) + b.bytes, log: true, gen: 6, behind: len(b.bytes)},
			held{name: b.name + " behind R", bytes: logOf(6, "a") + appended("b") + b.bytes, log: true, gen: 6, records: []string{"a", "b"}, behind: len(b.bytes)},
		)
		if b.bytes != e && b.bytes != framed("Cz") {
			c = append(c, held{name: b.name + " behind C", bytes: framed("G\x06", "Ca") + b.bytes + e})
		}
	}
	return c
}

func TestOpenOfOneArea(t *testing.T) {
	for _, c := range cases() {
		for area := range 4 {
			d := made(t, maxRoom)
			fill(t, d, area, c.bytes)
			l, records, err := log.Open(d)
			if l == nil || err != api.OK {
				t.Fatalf("%s: %v, %d", c.name, l, err)
			}
			if !slices.Equal(records, c.records) {
				t.Errorf("%s: %s instead of %s", c.name, list(records), list(c.records))
			}
			want := map[int]string{0: logOf(1)}
			gen := uint64(1)
			if c.log {
				want = map[int]string{area: c.bytes[:len(c.bytes)-c.behind]}
				gen = c.gen
			}
			for a, s := range want {
				if l.Gen() != gen || l.Size() != len(s) {
					t.Errorf("%s: Gen %d, Size %d", c.name, l.Gen(), l.Size())
				}
				if got, err := d.Read(a); got != s || err != api.OK {
					t.Errorf("%s: area %d: %s, %d", c.name, a, short(got), err)
				}
			}
			holdsSure(t, d, want)
			fine(t, l.Append("new"))
			opened(t, d, append(slices.Clone(c.records), "new")...)
		}
	}
}

// A log of which bytes are missing at the end tells the records that are whole, or is none.
func TestOpenOfAllBeginnings(t *testing.T) {
	whole := logOf(300, "ab", "") + appended("c", "", "de")
	copied := []string{"ab", ""}
	ends := []int{len(logOf(300, "ab", ""))}
	for _, r := range []string{"c", "", "de"} {
		ends = append(ends, ends[len(ends)-1]+len(appended(r)))
	}
	for n := range len(whole) + 1 {
		d := made(t, 1000)
		fill(t, d, 1, whole[:n])
		if n < ends[0] {
			is(t, opened(t, d), 1, emptySize)
			holdsSure(t, d, map[int]string{0: logOf(1)})
			continue
		}
		k := 0
		for k+1 < len(ends) && ends[k+1] <= n {
			k++
		}
		is(t, opened(t, d, append(slices.Clone(copied), []string{"c", "", "de"}[:k]...)...), 300, ends[k])
		holdsSure(t, d, map[int]string{1: whole[:ends[k]]})
	}
}

func TestOpenOfALogNeedsNoStep(t *testing.T) {
	for area := range 4 {
		d := made(t, 1000)
		fill(t, d, area, logOf(3, "a")+appended("b"))
		d.Fuel(0)
		is(t, opened(t, d, "a", "b"), 3, len(logOf(3, "a")+appended("b")))
		stands(t, d, false)
	}
}

// Pending bytes are read like others, and Open makes them sure only where it trims.
func TestOpenOfPendingBytes(t *testing.T) {
	d := made(t, 1000)
	fine(t, d.Lay(0), d.Write(0, logOf(1)), d.Sync(0), d.Write(0, appended("a")))
	opened(t, d, "a")
	holds(t, d, map[int]string{0: logOf(1) + appended("a")})
	d.Fall(nil)
	opened(t, d)

	fine(t, d.Write(0, appended("a")+"tail"))
	opened(t, d, "a")
	holdsSure(t, d, map[int]string{0: logOf(1) + appended("a")})
}

// All ways to lay nothing, junk, and logs of three generations in four areas.
func TestOpenOfSeveralAreas(t *testing.T) {
	const ways = 6
	for n := range ways * ways * ways * ways {
		d := made(t, 1000)
		best, gen := -1, uint64(0)
		bytes := map[int]string{}
		var others []int
		for area, k := 0, n; area < 4; area, k = area+1, k/ways {
			name := string(rune('a' + area))
			switch k % ways {
			case 0:
				continue
			case 1:
				bytes[area] = "junk" + logOf(9, name)
			case 2:
				bytes[area] = logOf(9, name)[:20] // without its E
			default:
				g := uint64(k%ways - 3) // 0, 1, 2
				bytes[area] = logOf(g, name)
				if best < 0 || g > gen {
					best, gen = area, g
				}
			}
			fill(t, d, area, bytes[area])
		}
		for area := range 4 {
			if _, there := bytes[area]; there && area != best {
				others = append(others, area)
			}
		}
		for fuel := range others { // they are cut in the order of their numbers
			d.Fuel(fuel)
			notOpened(t, d, api.ErrDown)
			d.Fall(all)
			left := map[int]string{}
			for area, s := range bytes {
				if !slices.Contains(others[:fuel], area) {
					left[area] = s
				}
			}
			holds(t, d, left)
			for _, area := range others[:fuel] {
				fill(t, d, area, bytes[area])
			}
		}
		if best < 0 {
			is(t, opened(t, d), 1, emptySize)
			holdsSure(t, d, map[int]string{0: logOf(1)})
			continue
		}
		d.Fuel(len(others))
		is(t, opened(t, d, string(rune('a'+best))), gen, len(bytes[best]))
		holdsSure(t, d, map[int]string{best: bytes[best]})
	}
}

func TestOpenOfTheGreatestOfGreatGenerations(t *testing.T) {
	gens := []uint64{0, 1, 247, 248, 255, 256, 1<<32 - 1, 1 << 32, 1<<63 - 1, 1 << 63, math.MaxUint64 - 1, math.MaxUint64}
	for i, low := range gens {
		for _, high := range gens[i+1:] {
			for _, areas := range [][2]int{{0, 1}, {1, 0}, {3, 2}, {0, 3}} {
				d := made(t, 1000)
				fill(t, d, areas[0], logOf(low, "low")+appended("more", "and more"))
				fill(t, d, areas[1], logOf(high, "high"))
				is(t, opened(t, d, "high"), high, len(logOf(high, "high")))
			}
		}
	}
}

func TestOpenTrimsBehindTheCuts(t *testing.T) {
	kept := logOf(4, "a") + appended("b")
	lay := func() *drum.Drum {
		d := made(t, 1000)
		fill(t, d, 0, "junk")
		fill(t, d, 2, kept+"tail")
		fill(t, d, 3, logOf(3))
		return d
	}
	left := []map[int]string{
		{0: "junk", 2: kept + "tail", 3: logOf(3)},
		{2: kept + "tail", 3: logOf(3)},
		{2: kept + "tail"},
	}
	for fuel, want := range left {
		d := lay()
		d.Fuel(fuel)
		notOpened(t, d, api.ErrDown)
		d.Fall(nil)
		holds(t, d, want)
		is(t, opened(t, d, "a", "b"), 4, len(kept))
		holdsSure(t, d, map[int]string{2: kept})
	}
	d := lay()
	d.Fuel(3)
	is(t, opened(t, d, "a", "b"), 4, len(kept))
	refused(t, "a fourth step", d.Sync(2), api.ErrDown)
}

func TestOpenCutsAreasWithoutALogAheadOfLaying(t *testing.T) {
	lay := func() *drum.Drum {
		d := made(t, 40)
		fill(t, d, 0, "zero")
		fill(t, d, 1, strings.Repeat("x", 30))
		fill(t, d, 3, "")
		return d
	}
	left := []map[int]string{
		{0: "zero", 1: strings.Repeat("x", 30), 3: ""},
		{1: strings.Repeat("x", 30), 3: ""},
		{3: ""},
		{},
		{0: ""},
		{0: logOf(1)},
	}
	for fuel, want := range left {
		d := lay()
		d.Fuel(fuel)
		notOpened(t, d, api.ErrDown)
		d.Fall(all)
		holds(t, d, want)
		is(t, opened(t, d), 1, emptySize)
	}
	d := lay()
	d.Fuel(6)
	is(t, opened(t, d), 1, emptySize)
	refused(t, "a seventh step", d.Sync(0), api.ErrDown)
}

func TestAppendOfAllLengths(t *testing.T) {
	for _, n := range []int{0, 1, 2, 246, 247, 248, 254, 255, 256, 1000, maxRecord - 1, maxRecord} {
		d := made(t, maxRoom)
		l := opened(t, d)
		fine(t, l.Append(long(n)), l.Append("next"))
		want := logOf(1) + appended(long(n), "next")
		is(t, l, 1, len(want))
		holdsSure(t, d, map[int]string{0: want})
		opened(t, d, long(n), "next")
	}
}

func TestAppendOfTooLongOnes(t *testing.T) {
	d := made(t, maxRoom)
	l := opened(t, d)
	fine(t, l.Append("a"))
	before := image(d)
	for _, n := range []int{maxRecord + 1, maxRecord + 2, maxPayload - 1, maxPayload, maxPayload + 1, maxRoom, 2 * maxRoom} {
		d.Fuel(0)
		refused(t, fmt.Sprint(n, " bytes"), l.Append(strings.Repeat("x", n)), api.ErrMore)
		holds(t, d, before) // without a step
		d.Fuel(-1)
	}
	fine(t, l.Append("b"))
	opened(t, d, "a", "b")
}

func TestAppendOfAllBytes(t *testing.T) {
	d := made(t, maxRoom)
	l := opened(t, d)
	var want []string
	for b := range 256 {
		want = append(want, string([]byte{byte(b)}), string([]byte{byte(b), 0}), "\xd7"+string([]byte{byte(b)}))
	}
	want = append(want, "", "G", "C", "E", "R", "G\x07", framed("E"), logOf(8, "x"))
	for _, r := range want {
		fine(t, l.Append(r))
	}
	l = opened(t, d, want...)
	fine(t, l.Renew(want))
	opened(t, d, want...)
}

func TestAppendByItsSteps(t *testing.T) {
	r := appended("abc")
	for _, area := range []int{0, 1, 2, 3} {
		for keep := -1; keep <= len(r)+1; keep++ {
			d := made(t, 1000)
			head := logOf(2, "x")
			fill(t, d, area, head)
			keeps := make([]int, 4)
			keeps[area] = keep
			l := opened(t, d, "x")
			d.Fuel(0)
			refused(t, "without fuel", l.Append("abc"), api.ErrDown)
			stands(t, d, true)
			refused(t, "down", l.Append("abc"), api.ErrDown)
			d.Fall(keeps)
			holds(t, d, map[int]string{area: head})

			l = opened(t, d, "x")
			d.Fuel(1)
			refused(t, "with fuel for the Write", l.Append("abc"), api.ErrDown)
			stands(t, d, true)
			d.Fall(keeps)
			holds(t, d, map[int]string{area: head + r[:min(max(keep, 0), len(r))]})
			want := []string{"x"}
			if keep >= len(r) {
				want = append(want, "abc")
			}
			l = opened(t, d, want...)
			d.Fuel(2)
			fine(t, l.Append("abc"))
			stands(t, d, false)
			refused(t, "a third step", d.Sync(area), api.ErrDown)
			d.Fall(nil)
			opened(t, d, append(want, "abc")...)
		}
	}
}

func TestAppendWithoutRoom(t *testing.T) {
	for n := range 40 {
		size := len(appended(long(n)))
		for _, less := range []int{0, 1, 2, size - 1, size} {
			d := made(t, emptySize+size-less)
			l := opened(t, d)
			if less == 0 {
				fine(t, l.Append(long(n)))
				refused(t, "one more", l.Append(""), api.ErrFull)
				opened(t, d, long(n))
				continue
			}
			d.Fuel(0)
			refused(t, "too much", l.Append(long(n)), api.ErrFull)
			stands(t, d, false)
			d.Fuel(-1)
			is(t, l, 1, emptySize)
			holdsSure(t, d, map[int]string{0: logOf(1)})
			opened(t, d)
		}
	}
}

func TestRenew(t *testing.T) {
	for _, records := range [][]string{nil, {}, {""}, {"x"}, {"x", "y"}, {"", "", ""}, {"E", "R", "G\x01"}, {long(maxRecord), "", long(300)}} {
		d := made(t, maxRoom)
		l := opened(t, d)
		fine(t, l.Append("a"), l.Append("b"))
		before := slices.Clone(records)
		fine(t, l.Renew(records))
		if !slices.Equal(before, records) {
			t.Error("the list is changed")
		}
		want := logOf(2, records...)
		is(t, l, 2, len(want))
		holdsSure(t, d, map[int]string{1: want})
		fine(t, l.Append("c"))
		is(t, l, 2, len(want+appended("c")))
		holdsSure(t, d, map[int]string{1: want + appended("c")})
		is(t, opened(t, d, append(slices.Clone(records), "c")...), 2, len(want+appended("c")))
	}
}

func TestRenewAgainAndAgain(t *testing.T) {
	d := made(t, 100)
	l := opened(t, d)
	for gen := uint64(2); gen < 600; gen++ {
		name := fmt.Sprint(gen)
		fine(t, l.Renew([]string{name}), l.Append("r"))
		area := int(gen+1) % 2 // the first that isn't there
		want := logOf(gen, name) + appended("r")
		is(t, l, gen, len(want))
		holdsSure(t, d, map[int]string{area: want})
		if gen%3 == 0 {
			l = opened(t, d, name, "r")
		}
	}
}

func TestRenewLaysInTheFirstAreaThatIsNotThere(t *testing.T) {
	for area, next := range []int{1, 0, 0, 0} {
		d := made(t, 1000)
		fill(t, d, area, logOf(7, "a")+appended("b"))
		l := opened(t, d, "a", "b")
		fine(t, l.Renew([]string{"x"}))
		is(t, l, 8, len(logOf(8, "x")))
		holdsSure(t, d, map[int]string{next: logOf(8, "x")})
	}
	for others := range 8 { // areas that somebody else has laid
		d := made(t, 1000)
		l := opened(t, d)
		want := map[int]string{}
		first := 0
		for area := 1; area < 4; area++ {
			if others>>(area-1)&1 == 1 {
				fill(t, d, area, "z")
				want[area] = "z"
			} else if first == 0 {
				first = area
			}
		}
		if first == 0 {
			continue
		}
		fine(t, l.Renew([]string{"x"}))
		want[first] = logOf(2, "x")
		holdsSure(t, d, want)
		opened(t, d, "x")
	}
}

func TestRenewWithAllAreasThere(t *testing.T) {
	for area := range 4 {
		d := made(t, 1000)
		fill(t, d, area, logOf(7, "a"))
		l := opened(t, d, "a")
		want := map[int]string{area: logOf(7, "a")}
		for other := range 4 {
			if other != area {
				fill(t, d, other, "z")
				want[other] = "z"
			}
		}
		refused(t, "too long", l.Renew([]string{long(maxRecord + 1)}), api.ErrMore)
		d.Fuel(0)
		refused(t, "no area", l.Renew([]string{"x"}), api.ErrFull)
		d.Fuel(-1)
		is(t, l, 7, len(logOf(7, "a")))
		holdsSure(t, d, want)
		fine(t, l.Append("b"))
		d.Fuel(0)
		refused(t, "Sync", d.Sync(area), api.ErrDown)
		refused(t, "down", l.Renew([]string{"x"}), api.ErrDown)
		d.Fall(nil)
		opened(t, d, "a", "b")
	}
}

func TestRenewOfTooLongOnes(t *testing.T) {
	for _, n := range []int{maxRecord + 1, maxPayload - 1, maxPayload, maxPayload + 1, 2 * maxRoom} {
		for place := range 3 {
			d := made(t, 100)
			l := opened(t, d)
			fine(t, l.Append("a"))
			records := []string{"x", "y", "z"}
			records[place] = strings.Repeat("l", n)
			before := image(d)
			d.Fuel(0)
			refused(t, "too long", l.Renew(records), api.ErrMore)
			holds(t, d, before) // without a step
			is(t, l, 1, emptySize+len(appended("a")))
			d.Fuel(-1)
			fine(t, l.Append("b"))
			opened(t, d, "a", "b")
		}
	}
}

func TestRenewByItsSteps(t *testing.T) {
	old, anew := logOf(1)+appended("a", "b"), logOf(2, "x", "")
	for keep := -1; keep <= len(anew)+1; keep++ {
		kept := min(max(keep, 0), len(anew))
		left := []map[int]string{
			{0: old},                   // no Lay
			{0: old, 1: ""},            // no Write
			{0: old, 1: anew[:kept]},   // no Sync: all frames are pending as one
			{0: old, 1: anew},          // no Cut
			{1: anew + appended("c2")}, // all of it, and an Append
		}
		for fuel, want := range left {
			d := made(t, 1000)
			l := opened(t, d)
			fine(t, l.Append("a"), l.Append("b"))
			d.Fuel(fuel)
			err := l.Renew([]string{"x", ""})
			if fuel == 4 {
				fine(t, err)
				stands(t, d, false)
				d.Fuel(2)
				fine(t, l.Append("c2"))
			} else {
				refused(t, "Renew", err, api.ErrDown)
				stands(t, d, true)
				if l.Size() != 0 {
					t.Errorf("Size of a drum that is down: %d", l.Size())
				}
				refused(t, "down", l.Append("c"), api.ErrDown)
				refused(t, "down", l.Renew(nil), api.ErrDown)
			}
			gen := uint64(1)
			if fuel >= 3 {
				gen = 2
			}
			if l.Gen() != gen {
				t.Errorf("fuel %d: Gen %d", fuel, l.Gen())
			}
			d.Fall([]int{keep, keep, keep, keep})
			holds(t, d, want)
			if fuel < 3 {
				is(t, l, 1, len(old)) // it goes on in the old area
			} else {
				is(t, l, 2, len(want[1]))
			}
			switch {
			case fuel == 4:
				opened(t, d, "x", "", "c2")
			case fuel == 3 || fuel == 2 && kept == len(anew):
				is(t, opened(t, d, "x", ""), 2, len(anew))
				holdsSure(t, d, map[int]string{1: anew})
			default:
				is(t, opened(t, d, "a", "b"), 1, len(old))
				holdsSure(t, d, map[int]string{0: old})
			}
		}
	}
}

// The log behind a Renew whose last cut was refused is the new one, also where it isn't opened anew.
func TestLogBehindARefusedLastCut(t *testing.T) {
	d := made(t, 1000)
	l := opened(t, d)
	fine(t, l.Append("a"))
	d.Fuel(3)
	refused(t, "Renew", l.Renew([]string{"x"}), api.ErrDown)
	if l.Gen() != 2 {
		t.Errorf("Gen: %d", l.Gen())
	}
	d.Fall(nil)
	fine(t, l.Append("y"))
	holdsSure(t, d, map[int]string{0: logOf(1) + appended("a"), 1: logOf(2, "x") + appended("y")})
	is(t, opened(t, d, "x", "y"), 2, len(logOf(2, "x")+appended("y")))
	holds(t, d, map[int]string{1: logOf(2, "x") + appended("y")})
}

func TestRenewWithoutRoom(t *testing.T) {
	old := logOf(1) + appended("abc")
	for _, records := range [][]string{nil, {""}, {"x"}, {"x", "yy", ""}, {long(300)}} {
		anew := logOf(2, records...)
		for _, less := range []int{0, 1, 2, 7, len(anew) - 1, len(anew)} {
			d := made(t, len(old)+len(anew)-less)
			l := opened(t, d)
			fine(t, l.Append("abc"))
			if less == 0 {
				fine(t, l.Renew(records))
				holdsSure(t, d, map[int]string{1: anew})
				continue
			}
			d.Fuel(2) // Lay, and the Cut
			refused(t, "Renew", l.Renew(records), api.ErrFull)
			is(t, l, 1, len(old))
			stands(t, d, false)
			holds(t, d, map[int]string{0: old})
			refused(t, "a third step", d.Sync(0), api.ErrDown)
			d.Fall(nil)
			holds(t, d, map[int]string{0: old})
			opened(t, d, "abc")
		}
	}
}

// The first error is told, also where the cut of the new area is refused too.
func TestRenewWithoutRoomAndFuel(t *testing.T) {
	old := logOf(1) + appended("abc")
	d := made(t, len(old)+14)
	l := opened(t, d)
	fine(t, l.Append("abc"))
	d.Fuel(1)
	refused(t, "Renew", l.Renew(nil), api.ErrFull)
	stands(t, d, true)
	if l.Gen() != 1 || l.Size() != 0 {
		t.Errorf("Gen %d, Size %d", l.Gen(), l.Size())
	}
	d.Fall(nil)
	holds(t, d, map[int]string{0: old, 1: ""})
	is(t, opened(t, d, "abc"), 1, len(old))
	holds(t, d, map[int]string{0: old})

	d.Fuel(0)
	refused(t, "Renew", l.Renew(nil), api.ErrDown)
	d.Fall(nil)
	holds(t, d, map[int]string{0: old})
}

func TestLogBehindARefusedRenew(t *testing.T) {
	d := made(t, 100)
	l := opened(t, d)
	fine(t, l.Append("a"))
	for range 3 {
		refused(t, "Renew", l.Renew([]string{long(100)}), api.ErrFull)
		refused(t, "Renew", l.Renew([]string{long(maxRecord + 1)}), api.ErrMore)
		is(t, l, 1, emptySize+len(appended("a")))
	}
	fine(t, l.Append("b"))
	holdsSure(t, d, map[int]string{0: logOf(1) + appended("a", "b")})
	fine(t, l.Renew([]string{"x"}))
	is(t, l, 2, len(logOf(2, "x")))
	opened(t, d, "x")
}

func TestManyRecordsInOneRenew(t *testing.T) {
	d := made(t, maxRoom)
	l := opened(t, d)
	records := make([]string, 100000)
	fine(t, l.Renew(records))
	is(t, l, 2, 7*100000+emptySize)
	opened(t, d, records...)
	refused(t, "twice of it", l.Renew(records), api.ErrFull)
	refused(t, "far more", l.Renew(make([]string, 1000000)), api.ErrFull)
	opened(t, d, records...)
}

func TestErrorsInTheirOrder(t *testing.T) {
	tooLong := long(maxRecord + 1)
	d := made(t, emptySize)
	l := opened(t, d)
	refused(t, "too long and no room", l.Append(tooLong), api.ErrMore)
	refused(t, "too long and no room", l.Renew([]string{tooLong}), api.ErrMore)
	d.Fuel(0)
	refused(t, "no room and no fuel", l.Append(""), api.ErrFull)
	refused(t, "no fuel", l.Renew([]string{""}), api.ErrDown)
	refused(t, "too long and down", l.Append(tooLong), api.ErrMore)
	refused(t, "too long and down", l.Renew([]string{"", tooLong}), api.ErrMore)
	refused(t, "no room and down", l.Append(""), api.ErrDown)
	refused(t, "no room and down", l.Renew([]string{""}), api.ErrDown)
	var none *log.Log
	refused(t, "too long for a nil one", none.Append(tooLong), api.ErrDown)
	refused(t, "too long for a nil one", none.Renew([]string{tooLong}), api.ErrDown)
}

func TestNilLog(t *testing.T) {
	var l *log.Log
	refused(t, "Append", l.Append("a"), api.ErrDown)
	refused(t, "Append", l.Append(""), api.ErrDown)
	refused(t, "Renew", l.Renew(nil), api.ErrDown)
	refused(t, "Renew", l.Renew([]string{"a"}), api.ErrDown)
	is(t, l, 0, 0)
}

// What these answer isn't said, but that they end is.
func TestLogThatWasNotOpened(t *testing.T) {
	l := new(log.Log)
	l.Append("a")
	l.Renew([]string{"a"})
	l.Size()
	l.Gen()
}

func TestSizeAndGenOfADrumThatIsDown(t *testing.T) {
	d := made(t, 1000)
	fill(t, d, 2, logOf(300, "a"))
	l := opened(t, d, "a")
	size := len(logOf(300, "a"))
	is(t, l, 300, size)
	d.Fuel(0)
	is(t, l, 300, size) // no steps
	refused(t, "Append", l.Append("b"), api.ErrDown)
	is(t, l, 300, 0)
	d.Fall(nil)
	is(t, l, 300, size)
	d.Fuel(1)
	refused(t, "Append", l.Append("b"), api.ErrDown)
	is(t, l, 300, 0)
	d.Fall([]int{0, 0, 3})
	is(t, l, 300, size+3)
}

func TestRenewOfGreatGenerations(t *testing.T) {
	for _, gen := range []uint64{0, 246, 247, 248, 255, 65535, 1<<32 - 1, 1<<63 - 1, math.MaxUint64 - 1} {
		d := made(t, 1000)
		fill(t, d, 0, logOf(gen, "a"))
		l := opened(t, d, "a")
		fine(t, l.Renew([]string{"x"}))
		is(t, l, gen+1, len(logOf(gen+1, "x")))
		holdsSure(t, d, map[int]string{1: logOf(gen+1, "x")})
		opened(t, d, "x")
	}
	// There is no generation behind the greatest one: it goes round, and all of its records are there.
	d := made(t, 1000)
	fill(t, d, 0, logOf(math.MaxUint64, "a"))
	l := opened(t, d, "a")
	fine(t, l.Renew([]string{"x"}), l.Append("y"))
	opened(t, d, "x", "y")
}

func TestListsAreNewMemory(t *testing.T) {
	d := made(t, 1000)
	l := opened(t, d)
	room := []string{"x", "y", "z", "behind"}
	records := room[:2]
	fine(t, l.Renew(records), l.Append("c"))
	if !slices.Equal(room, []string{"x", "y", "z", "behind"}) {
		t.Error("the list, or the room behind it, is changed:", room)
	}
	room[0], room[1] = "spoilt", "spoilt"
	_, first, _ := log.Open(d)
	if !slices.Equal(first, []string{"x", "y", "c"}) {
		t.Error("the list is kept:", first)
	}
	for i := range first {
		first[i] = "spoilt"
	}
	first = append(first, "spoilt")
	opened(t, d, "x", "y", "c")
	fine(t, l.Append("d"))
	opened(t, d, "x", "y", "c", "d")
}

func TestLogsAreApart(t *testing.T) {
	a, b := made(t, 1000), made(t, 1000)
	la, lb := opened(t, a), opened(t, b)
	fine(t, la.Append("a"), lb.Append("b"), la.Renew([]string{"x"}), lb.Append("c"))
	a.Fuel(0)
	refused(t, "Append", la.Append("z"), api.ErrDown)
	fine(t, lb.Append("d"))
	is(t, lb, 1, emptySize+len(appended("b", "c", "d")))
	opened(t, b, "b", "c", "d")
	a.Fall(nil)
	is(t, opened(t, a, "x"), 2, len(logOf(2, "x")))
}

// plain is a log found otherwise: what it does is a list of a drum's steps, done up to the first that is refused.
type plain struct {
	d    *drum.Drum
	area int
	gen  uint64
}

// inTurn does steps up to the first that is refused.
func inTurn(steps ...func() api.Errno) api.Errno {
	for _, step := range steps {
		if err := step(); err != api.OK {
			return err
		}
	}
	return api.OK
}

// payloadOf answers the payload of the frame that s begins with, found by the frames that there could be.
func payloadOf(s string) (payload string, size int, ok bool) {
	if len(s) < 2 || s[0] != 0xd7 {
		return "", 0, false
	}
	for n := range min(len(s), maxPayload+1) {
		at := 1 + len(form(uint64(n)))
		if strings.HasPrefix(s[1:], form(uint64(n))) && at+n+4 <= len(s) {
			f := framed(s[at : at+n])
			return s[at : at+n], len(f), strings.HasPrefix(s, f)
		}
	}
	return "", 0, false
}

// genOf answers the generation that a payload of the kind G tells.
func genOf(payload string) (gen uint64, ok bool) {
	if len(payload) < 2 || payload[0] != 'G' {
		return 0, false
	}
	rest := payload[1:]
	if rest[0] < 248 {
		gen = uint64(rest[0])
	} else {
		for _, b := range []byte(rest[1:min(len(rest), 9)]) {
			gen = gen<<8 | uint64(b)
		}
	}
	return gen, form(gen) == rest
}

// logIn answers the log that an area's bytes hold: the kinds of its frames are G, Cs, E and Rs.
func logIn(s string) (gen uint64, records []string, end int, ok bool) {
	first, at, whole := payloadOf(s)
	gen, ok = genOf(first)
	if !whole || !ok {
		return 0, nil, 0, false
	}
	ready := false
	for {
		p, size, whole := payloadOf(s[at:])
		fits := whole && p != "" && (!ready && (p[0] == 'C' || p == "E") || ready && p[0] == 'R')
		if !fits {
			return gen, records, at, ready
		}
		at += size
		if p == "E" && !ready {
			ready = true
		} else {
			records = append(records, p[1:])
		}
	}
}

func plainOpen(d *drum.Drum) (*plain, []string, api.Errno) {
	p := &plain{d: d, area: -1, gen: 0}
	var records []string
	var steps []func() api.Errno
	end, size := 0, 0
	for area := 3; area >= 0; area-- {
		s, err := d.Read(area)
		if err == api.ErrDown {
			return nil, nil, err
		}
		if gen, r, e, ok := logIn(s); ok && (p.area < 0 || gen >= p.gen) {
			p.area, p.gen, records, end, size = area, gen, r, e, len(s)
		}
	}
	for area := range 4 {
		if d.Has(area) && area != p.area {
			steps = append(steps, func() api.Errno { return d.Cut(area) })
		}
	}
	if p.area < 0 {
		p.area, p.gen = 0, 1
		steps = append(steps, p.laying(0, logOf(1))...)
	} else if size > end {
		steps = append(steps, func() api.Errno { return d.Trim(p.area, end) })
	}
	if err := inTurn(steps...); err != api.OK {
		return nil, nil, err
	}
	return p, records, api.OK
}

func (p *plain) laying(area int, s string) []func() api.Errno {
	return []func() api.Errno{
		func() api.Errno { return p.d.Lay(area) },
		func() api.Errno { return p.d.Write(area, s) },
		func() api.Errno { return p.d.Sync(area) },
	}
}

func (p *plain) Append(record string) api.Errno {
	if len(record) > maxRecord {
		return api.ErrMore
	}
	return inTurn(
		func() api.Errno { return p.d.Write(p.area, framed("R"+record)) },
		func() api.Errno { return p.d.Sync(p.area) })
}

func (p *plain) Renew(records []string) api.Errno {
	if slices.ContainsFunc(records, func(r string) bool { return len(r) > maxRecord }) {
		return api.ErrMore
	}
	area := 0
	for p.d.Has(area) {
		area++
	}
	if err := inTurn(p.laying(area, logOf(p.gen+1, records...))...); err != api.OK {
		if !p.d.Down() {
			p.d.Cut(area)
		}
		return err
	}
	old := p.area
	p.area, p.gen = area, p.gen+1
	return p.d.Cut(old)
}

// pair is a log and a plain one, each on a drum of its own, to which the same is done.
type pair struct {
	d, e *drum.Drum
	l    *log.Log
	p    *plain
	told []string // what was done, for a failure's message
}

func pairOf(t *testing.T, room int) *pair {
	return &pair{d: made(t, room), e: made(t, room)}
}

// both does the same to both drums.
func (q *pair) both(what string, do func(d *drum.Drum)) {
	q.told = append(q.told, what)
	do(q.d)
	do(q.e)
}

// open opens both; without one that is open nothing else is done.
func (q *pair) open(t *testing.T) {
	t.Helper()
	q.told = append(q.told, "Open")
	l, records, err := log.Open(q.d)
	p, wanted, want := plainOpen(q.e)
	if err != want || (l == nil) != (p == nil) || !slices.Equal(records, wanted) {
		t.Fatalf("%v: %v, %s, %d instead of %v, %s, %d", q.told, l, list(records), err, p, list(wanted), want)
	}
	q.l, q.p = l, p
	q.same(t)
}

func (q *pair) append(t *testing.T, record string) api.Errno {
	t.Helper()
	q.told = append(q.told, "Append "+short(record))
	if q.l == nil {
		return q.l.Append(record)
	}
	err, want := q.l.Append(record), q.p.Append(record)
	if err != want {
		t.Fatalf("%v: %d instead of %d", q.told, err, want)
	}
	q.same(t)
	return err
}

func (q *pair) renew(t *testing.T, records ...string) api.Errno {
	t.Helper()
	q.told = append(q.told, "Renew "+list(records))
	if q.l == nil {
		return q.l.Renew(records)
	}
	err, want := q.l.Renew(records), q.p.Renew(records)
	if err != want {
		t.Fatalf("%v: %d instead of %d", q.told, err, want)
	}
	q.same(t)
	return err
}

// fall lets both drums fall, and opens both logs anew.
func (q *pair) fall(t *testing.T, keep ...int) {
	t.Helper()
	q.both(fmt.Sprint("Fall ", keep), func(d *drum.Drum) { d.Fall(keep) })
	q.same(t)
	q.l, q.p = nil, nil
}

// same checks that both drums, and both logs, tell the same.
func (q *pair) same(t *testing.T) {
	t.Helper()
	if q.d.Down() != q.e.Down() || q.d.Used() != q.e.Used() {
		t.Fatalf("%v: Down %v, Used %d instead of %v, %d", q.told, q.d.Down(), q.d.Used(), q.e.Down(), q.e.Used())
	}
	for area := range 4 {
		a, errA := q.d.Read(area)
		b, errB := q.e.Read(area)
		if q.d.Has(area) != q.e.Has(area) || a != b || errA != errB {
			t.Fatalf("%v: area %d: %s, %d instead of %s, %d", q.told, area, short(a), errA, short(b), errB)
		}
	}
	if q.l == nil {
		return
	}
	s, _ := q.e.Read(q.p.area)
	if q.l.Gen() != q.p.gen || q.l.Size() != len(s) {
		t.Fatalf("%v: Gen %d, Size %d instead of %d, %d", q.told, q.l.Gen(), q.l.Size(), q.p.gen, len(s))
	}
}

// All orders of a few calls, each on a drum with little room.
func TestAllOrders(t *testing.T) {
	calls := []func(q *pair){
		func(q *pair) { q.append(t, "a") },
		func(q *pair) { q.append(t, strings.Repeat("b", 12)) },
		func(q *pair) { q.append(t, long(maxRecord+1)) },
		func(q *pair) { q.renew(t) },
		func(q *pair) { q.renew(t, "x", "yy") },
		func(q *pair) { q.open(t) },
		func(q *pair) { q.both("Fuel 1", func(d *drum.Drum) { d.Fuel(1) }) },
		func(q *pair) { q.both("Fuel 2", func(d *drum.Drum) { d.Fuel(2) }) },
		func(q *pair) { q.both("Fuel 3", func(d *drum.Drum) { d.Fuel(3) }) },
		func(q *pair) { q.fall(t); q.open(t) },
		func(q *pair) { q.fall(t, 5, 15); q.open(t) },
		func(q *pair) { q.fall(t, all...); q.open(t) },
	}
	for n := range len(calls) * len(calls) * len(calls) * len(calls) {
		q := pairOf(t, 60)
		q.open(t)
		for k, left := 0, n; k < 4; k, left = k+1, left/len(calls) {
			calls[left%len(calls)](q)
		}
		q.fall(t, 3, 3)
		q.open(t)
	}
}

// pieces answers something that an area may hold.
func pieces(r *rand.Rand) string {
	s := ""
	if r.Intn(4) > 0 {
		s = framed("G" + form(uint64(r.Intn(4))))
	}
	for r.Intn(3) > 0 {
		s += framed("C" + long(r.Intn(4)))
	}
	if r.Intn(4) > 0 {
		s += framed("E")
	}
	for r.Intn(3) > 0 {
		s += framed("R" + long(r.Intn(4)))
	}
	for r.Intn(3) == 0 {
		s += framed(string("GCERX"[r.Intn(5)]) + []string{"", "\x01", "ab"}[r.Intn(3)])
	}
	switch r.Intn(6) {
	case 0:
		s = s[:r.Intn(len(s)+1)]
	case 1:
		if s != "" {
			b := []byte(s)
			b[r.Intn(len(b))] ^= byte(1 << r.Intn(8))
			s = string(b)
		}
	case 2:
		s += "\xd7x"[:1+r.Intn(2)]
	}
	return s
}

// Areas by chance, opened with as much fuel as may be.
func TestOpenByChance(t *testing.T) {
	r := rand.New(rand.NewSource(5))
	for range 20000 {
		q := pairOf(t, []int{60, 200, 1000}[r.Intn(3)])
		for area := range 4 {
			if r.Intn(3) == 0 {
				continue
			}
			s, tail := pieces(r), ""
			if r.Intn(3) == 0 {
				tail = pieces(r)
			}
			q.both(fmt.Sprintf("area %d: %q, %q", area, s, tail), func(d *drum.Drum) {
				d.Lay(area)
				d.Write(area, s)
				d.Sync(area)
				d.Write(area, tail)
			})
		}
		if r.Intn(2) == 0 {
			fuel := r.Intn(7)
			q.both(fmt.Sprint("Fuel ", fuel), func(d *drum.Drum) { d.Fuel(fuel) })
		}
		q.open(t)
		q.fall(t, r.Intn(30), r.Intn(30), r.Intn(30), r.Intn(30))
		q.open(t)
		q.append(t, "z")
		q.open(t)
	}
}

// Calls by chance, with falls between.
func TestCallsByChance(t *testing.T) {
	r := rand.New(rand.NewSource(14))
	record := func() string {
		if r.Intn(20) == 0 {
			return long(maxRecord + r.Intn(2))
		}
		return long(r.Intn(12))
	}
	for range 600 {
		q := pairOf(t, []int{10, 40, 100, 300, 50000, maxRoom}[r.Intn(6)])
		q.open(t)
		for range 60 {
			switch r.Intn(8) {
			case 0, 1, 2:
				q.append(t, record())
			case 3:
				var records []string
				for r.Intn(3) > 0 {
					records = append(records, record())
				}
				q.renew(t, records...)
			case 4:
				q.open(t)
			case 5:
				fuel := r.Intn(9) - 1
				q.both(fmt.Sprint("Fuel ", fuel), func(d *drum.Drum) { d.Fuel(fuel) })
			default:
				if r.Intn(2) == 0 && !q.d.Down() {
					continue
				}
				q.fall(t, r.Intn(40)-1, r.Intn(40)-1, r.Intn(40)-1)
				q.open(t)
			}
		}
	}
}

// P5.2

// deed is an Append of one record, or a Renew.
type deed struct {
	renew   bool
	records []string
}

// history keeps which records there may be behind a fall.
type history struct {
	d       *drum.Drum
	l       *log.Log
	sure    []string
	perhaps []string // instead of the sure ones
	other   bool     // whether there may be others
}

// do does a deed, and answers whether the drum is down then.
func (h *history) do(t *testing.T, x deed) bool {
	t.Helper()
	var after []string
	var err api.Errno
	if x.renew {
		after, err = x.records, h.l.Renew(x.records)
	} else {
		after, err = append(slices.Clone(h.sure), x.records[0]), h.l.Append(x.records[0])
	}
	if err == api.OK {
		h.sure = slices.Clone(after)
	}
	if h.d.Down() {
		refused(t, "the call in which the drum went down", err, api.ErrDown)
		h.perhaps, h.other = after, true
	}
	return h.d.Down()
}

// reopen lets the drum fall, opens it, with falls in that too, and checks the records.
func (h *history) reopen(t *testing.T, keep []int) {
	t.Helper()
	h.d.Fall(keep)
	for fuel := 0; ; fuel++ {
		h.d.Fuel(fuel)
		l, records, err := log.Open(h.d)
		if err == api.ErrDown && l == nil && len(records) == 0 && fuel < 20 {
			h.d.Fall(keep)
			continue
		}
		h.d.Fuel(-1)
		fits := slices.Equal(records, h.sure) || h.other && slices.Equal(records, h.perhaps)
		if err != api.OK || !fits {
			t.Fatalf("Open: %d, %s instead of %s, or (%v) %s", err, list(records), list(h.sure), h.other, list(h.perhaps))
		}
		h.l, h.sure, h.perhaps, h.other = l, records, nil, false
		return
	}
}

// deeds answers a run of them in which all follow all.
func deeds() []deed {
	return []deed{
		{false, []string{"a"}}, {false, []string{""}}, {true, []string{"x", "", "y"}}, {false, []string{"b"}},
		{true, nil}, {true, []string{"z"}}, {false, []string{long(20)}}, {true, []string{long(20), "x"}},
	}
}

// Fuel ends ahead of each step of the deeds, and the fall keeps each number of bytes.
func TestFallsAtAllSteps(t *testing.T) {
	for fuel := 0; ; fuel++ {
		down := false
		for keep := -1; keep < 60; keep++ {
			h := &history{d: made(t, 1000)}
			h.l = opened(t, h.d)
			h.d.Fuel(fuel)
			down = false
			for _, x := range deeds() {
				if down = h.do(t, x); down {
					break
				}
			}
			h.reopen(t, []int{keep, keep, keep, keep})
			for _, x := range deeds() { // and it goes on from there
				h.do(t, x)
			}
			h.reopen(t, nil)
		}
		if !down {
			break
		}
	}
}

// Fuel ends ahead of each step, again and again.
func TestFallsByChance(t *testing.T) {
	r := rand.New(rand.NewSource(52))
	for range 500 {
		h := &history{d: made(t, []int{80, 200, 1000}[r.Intn(3)])}
		h.l = opened(t, h.d)
		for range 30 {
			h.d.Fuel(r.Intn(12))
			for range 6 {
				var records []string
				for len(records) == 0 || r.Intn(3) == 0 {
					records = append(records, long(r.Intn(10)))
				}
				x := deed{r.Intn(3) == 0, records}
				if h.d.Down() {
					refused(t, "down", h.l.Append("z"), api.ErrDown)
				} else if h.l.Size() > 50 && r.Intn(2) == 0 {
					h.doFull(t, deed{true, nil})
				} else {
					h.doFull(t, x)
				}
			}
			h.reopen(t, []int{r.Intn(50), r.Intn(50), r.Intn(50), r.Intn(50)})
		}
	}
}

// doFull does a deed that may lack room; then the drum may have gone down in the new area's cut.
func (h *history) doFull(t *testing.T, x deed) {
	t.Helper()
	before := image(h.d)
	var err api.Errno
	after := slices.Concat(h.sure, x.records[:min(1, len(x.records))])
	if x.renew {
		after, err = x.records, h.l.Renew(x.records)
	} else {
		err = h.l.Append(x.records[0])
	}
	switch err {
	case api.OK:
		h.sure = slices.Clone(after)
	case api.ErrFull:
		if !h.d.Down() {
			holds(t, h.d, before)
		}
	case api.ErrDown:
		h.perhaps, h.other = after, true
	default:
		t.Fatalf("%d", err)
	}
}

// A fall of a drum that is up, behind an OK, takes nothing, whatever it keeps.
func TestFallsWhileUp(t *testing.T) {
	for n := range len(deeds()) + 1 {
		for _, keep := range [][]int{nil, {0, 0, 0, 0}, {1, 1, 1, 1}, all} {
			h := &history{d: made(t, 1000)}
			h.l = opened(t, h.d)
			for _, x := range deeds()[:n] {
				h.do(t, x)
			}
			before := image(h.d)
			h.d.Fall(keep)
			holds(t, h.d, before)
			opened(t, h.d, h.sure...)
			holds(t, h.d, before)
		}
	}
}

// Both of what may be there behind a fall are, as the fall keeps more or less.
func TestWhatMayBeThereIsThere(t *testing.T) {
	r := appended("one more")
	anew := logOf(2, "x", "y")
	for keep := range 60 {
		d := made(t, 1000)
		l := opened(t, d)
		fine(t, l.Append("a"))
		d.Fuel(1)
		refused(t, "Append", l.Append("one more"), api.ErrDown)
		d.Fall([]int{keep})
		if keep < len(r) {
			l = opened(t, d, "a")
		} else {
			l = opened(t, d, "a", "one more")
		}
		d.Fuel(2)
		refused(t, "Renew", l.Renew([]string{"x", "y"}), api.ErrDown)
		d.Fall([]int{0, keep})
		switch {
		case keep >= len(anew):
			opened(t, d, "x", "y")
		case keep >= len(r):
			opened(t, d, "a", "one more")
		default:
			opened(t, d, "a")
		}
	}
}

// A record that was cut by a fall doesn't hide one that is appended behind it.
func TestAppendBehindACutRecord(t *testing.T) {
	for keep := range len(appended("torn")) {
		d := made(t, 1000)
		l := opened(t, d)
		fine(t, l.Append("a"))
		d.Fuel(1)
		refused(t, "Append", l.Append("torn"), api.ErrDown)
		d.Fall([]int{keep})
		l = opened(t, d, "a")
		fine(t, l.Append("b"))
		d.Fall(nil)
		opened(t, d, "a", "b")
	}
}

// P5.3

func TestRefusedAppendsChangeNothing(t *testing.T) {
	for _, room := range []int{emptySize, 20, 30, 40, 60, 100} {
		for n := range 60 {
			d := made(t, room)
			l := opened(t, d)
			var want []string
			for len(want) < 3 && l.Append("ab") == api.OK {
				want = append(want, "ab")
			}
			for _, record := range []string{long(n), strings.Repeat("R", room), long(maxRecord + 1 + n)} {
				before, gen, size := image(d), l.Gen(), l.Size()
				switch err := l.Append(record); err {
				case api.OK:
					want = append(want, record)
				case api.ErrMore, api.ErrFull:
					holds(t, d, before)
					is(t, l, gen, size)
				default:
					t.Errorf("Append: %d", err)
				}
				d.Fall(all)
				l = opened(t, d, want...)
			}
		}
	}
}

func TestRefusedAppendsOfADrumThatWasDown(t *testing.T) {
	d := made(t, 1000)
	l := opened(t, d)
	fine(t, l.Append("a"))
	d.Fuel(0)
	refused(t, "Sync", d.Sync(0), api.ErrDown)
	for _, record := range []string{"", "b", long(maxRecord)} {
		refused(t, "down", l.Append(record), api.ErrDown)
	}
	refused(t, "too long", l.Append(long(maxRecord+1)), api.ErrMore)
	d.Fall(all)
	is(t, opened(t, d, "a"), 1, emptySize+len(appended("a")))
}

// An Append in which the drum goes down may leave a part of its frame, which Open doesn't tell unless it is whole.
func TestAppendsInWhichTheDrumGoesDown(t *testing.T) {
	for fuel := range 2 {
		for keep := range 20 {
			d := made(t, 1000)
			l := opened(t, d)
			fine(t, l.Append("a"))
			d.Fuel(fuel)
			refused(t, "Append", l.Append("bcd"), api.ErrDown)
			d.Fall([]int{keep})
			if fuel == 1 && keep >= len(appended("bcd")) {
				opened(t, d, "a", "bcd")
			} else {
				opened(t, d, "a")
			}
		}
	}
}
