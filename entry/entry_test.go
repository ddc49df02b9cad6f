package entry_test

import (
	"math"
	"math/rand"
	"slices"
	"strings"
	"testing"

	"dovecote/api"
	"dovecote/entry"
)

// P12.1: each call answers as the chapter says.

func TestExamples(t *testing.T) {
	wrote(t, api.Entry{Kind: api.EntryDone, By: txn}, "\x07\x01\x02")
	wrote(t, api.Entry{Kind: api.EntryBound, At: api.Ts{P: 300, L: 2}}, "\x01\xf9\x01\x2c\x02")
}

// The bytes of an entry of each Kind, written out by hand.
func TestBytesOfEachKind(t *testing.T) {
	for i, s := range []string{
		"\x01\xf9\x01\x2c\x02",
		"\x02\x01\x02\x05\x00\x06\x07\x01p\x02\x01b\x00\x01x\x01a\x01\x00",
		"\x03\x01\x02\x05\x00\x09\x00\x03",
		"\x04\x01\x02\x09\x00",
		"\x05\x01\x02\x05\x00",
		"\x06\x04\x00",
		"\x07\x01\x02",
		"\x08\x01\x02\x09\x00\x01b\x00\x01x",
		"\x09\x01\x02\x05\x00\x09\x00\x03\x01",
	} {
		wrote(t, few()[i], s)
	}
	for _, e := range great() {
		asPlain(t, e)
		wrote(t, e, bytesOf(e))
	}
}

// The names of the Kinds are those that the chapter numbers.
func TestKindsOfAPI(t *testing.T) {
	names := []int{api.EntryBound, api.EntryLay, api.EntryCommit, api.EntryApply, api.EntryUndo, api.EntrySafe, api.EntryDone, api.EntryHave, api.EntryBook}
	for i, e := range few() {
		if e.Kind != names[i] {
			t.Errorf("Kind %d is named %d", e.Kind, names[i])
		}
	}
}

// An entry with nothing but its Kind is right where no field must be other than zero.
func TestKindAlone(t *testing.T) {
	for kind, s := range []string{"", "\x01\x00\x00", "", "", "", "\x05\x00\x00\x00\x00", "\x06\x00\x00", "\x07\x00\x00", "", "\x09\x00\x00\x00\x00\x00\x00\x00\x00"} {
		if e := (api.Entry{Kind: kind}); s == "" {
			refused(t, e)
		} else {
			wrote(t, e, s)
		}
	}
}

func TestNoSuchKind(t *testing.T) {
	kinds := []int{math.MinInt, math.MinInt32, -256, -10, -9, -8, -7, -6, -5, -4, -3, -2, -1, 0, 10, 11, 12, 16, 247, 248, 255, 256, math.MaxInt32, math.MaxInt}
	for wrap := range 9 {
		kinds = append(kinds, wrap+1+1<<8, wrap+1+1<<16, wrap+1+1<<32)
	}
	for _, kind := range kinds {
		refused(t, api.Entry{Kind: kind})
		for _, e := range slices.Concat(few(), great()) {
			e.Kind = kind
			refused(t, e)
		}
		if kind < 0 {
			continue
		}
		for _, e := range few() {
			unread(t, number(uint64(kind))+bytesOf(e)[1:])
		}
		unread(t, number(uint64(kind)))
		unread(t, number(uint64(kind))+"\x00\x00")
	}
}

// What each Kind is told to have: By, Start, At, Min, Primary, Parts, Done, Writes.
func TestOtherFields(t *testing.T) {
	fields := []string{"..a.....", "bs.mp..w", "bsa..P..", "b.a.....", "bs......", "..a.....", "b.......", "b.a....w", "bsa..Pd."}
	set := map[string][]func(e *api.Entry){
		"b": {func(e *api.Entry) { e.By.Client = 1 }, func(e *api.Entry) { e.By.N = 1 }, func(e *api.Entry) { e.By = last }},
		"s": {func(e *api.Entry) { e.Start.P = 1 }, func(e *api.Entry) { e.Start.L = 1 }, func(e *api.Entry) { e.Start = greatest }},
		"a": {func(e *api.Entry) { e.At.P = 1 }, func(e *api.Entry) { e.At.L = 1 }, func(e *api.Entry) { e.At = greatest }},
		"m": {func(e *api.Entry) { e.Min.P = 1 }, func(e *api.Entry) { e.Min.L = 1 }, func(e *api.Entry) { e.Min = greatest }},
		"p": {func(e *api.Entry) { e.Primary = "a" }, func(e *api.Entry) { e.Primary = key }, func(e *api.Entry) { e.Primary = "\x00" }},
		"P": {func(e *api.Entry) { e.Parts = 1 }, func(e *api.Entry) { e.Parts = 128 }, func(e *api.Entry) { e.Parts = 255 }},
		"d": {func(e *api.Entry) { e.Done = true }},
		"w": {func(e *api.Entry) { e.Writes = writes{{Key: "a"}} }, func(e *api.Entry) { e.Writes = writes{{Key: "a", Dead: true}} }, func(e *api.Entry) { e.Writes = writes{{}} }},
	}
	for i, has := range fields {
		for field, ways := range set {
			for which, way := range ways {
				for _, e := range []api.Entry{few()[i], great()[i]} {
					way(&e)
					if !strings.Contains(has, field) {
						refused(t, e)
					} else if field != "w" || which < 2 {
						wrote(t, e, bytesOf(e))
					}
				}
			}
		}
	}
}

// An empty list is an empty list, nil or not, whatever room is behind it.
func TestEmptyWrites(t *testing.T) {
	room := make(writes, 0, 4)
	copy(room[:4], many(4))
	for _, l := range []writes{nil, {}, room} {
		for _, e := range few() {
			if e.Writes == nil {
				wrote(t, api.Entry{Kind: e.Kind, By: e.By, Start: e.Start, At: e.At, Parts: e.Parts, Done: e.Done, Writes: l}, bytesOf(e))
			} else {
				e.Writes = l
				refused(t, e)
			}
		}
	}
}

func TestTransactions(t *testing.T) {
	for _, e := range few() {
		if e.By != txn {
			continue
		}
		for _, n := range []uint32{0, 1, 247, 248, 255, 256, 65535, 65536, 16777215, 16777216, math.MaxUint32 - 1, math.MaxUint32} {
			e.By = api.Txn{Client: n, N: 3}
			wrote(t, e, bytesOf(e))
			e.By = api.Txn{Client: 3, N: n}
			wrote(t, e, bytesOf(e))
			e.By = api.Txn{Client: n, N: n}
			wrote(t, e, bytesOf(e))
		}
		e.By = txn
		rest := bytesOf(e)[3:]
		for _, n := range []uint64{1 << 32, 1<<32 + 1, 1<<32 + 2, 1 << 40, math.MaxUint64} {
			unread(t, number(uint64(e.Kind))+number(n)+"\x02"+rest)
			unread(t, number(uint64(e.Kind))+"\x01"+number(n)+rest)
		}
	}
}

// withStamp answers e with u as Start, At and Min, one by one, as far as it has them.
func withStamp(e api.Entry, u api.Ts) []api.Entry {
	a, b, c := e, e, e
	a.Start, b.At, c.Min = u, u, u
	var l []api.Entry
	if e.Start != none {
		l = append(l, a)
	}
	if e.At != none {
		l = append(l, b)
	}
	if e.Min != none {
		l = append(l, c)
	}
	return l
}

func TestStamps(t *testing.T) {
	seen := 0
	for _, e := range few() {
		for _, u := range wrongStamps() {
			for _, wrong := range withStamp(e, u) {
				refused(t, wrong)
				unread(t, bytesOf(wrong))
				seen++
			}
		}
		for _, u := range rightStamps() {
			for _, well := range withStamp(e, u) {
				wrote(t, well, bytesOf(well))
			}
		}
	}
	if seen != 11*len(wrongStamps()) {
		t.Errorf("%d stamps that aren't right", seen)
	}
}

// None is wrong as the At of Commit and Apply, and nowhere else.
func TestNone(t *testing.T) {
	for _, e := range few() {
		for _, x := range withStamp(e, none) {
			x.Parts, x.Done = 0, false
			switch {
			case x.At == none && (x.Kind == commit || x.Kind == apply):
				refused(t, x)
				unread(t, bytesOf(x))
			default:
				wrote(t, x, bytesOf(x))
			}
		}
	}
	wrote(t, api.Entry{Kind: commit, At: api.Ts{L: 1}}, "\x03\x00\x00\x00\x00\x00\x01\x00")
	wrote(t, api.Entry{Kind: commit, At: at(1)}, "\x03\x00\x00\x00\x00\x01\x00\x00")
	wrote(t, api.Entry{Kind: apply, At: api.Ts{L: 1}}, "\x04\x00\x00\x00\x01")
	wrote(t, api.Entry{Kind: have, Writes: writes{{Key: "a"}}}, "\x08\x00\x00\x00\x00\x01a\x00\x00")
}

// A stamp of commit need not be above that of start, nor Min above Start.
func TestStampsInAnyOrder(t *testing.T) {
	for _, e := range few() {
		for _, u := range []api.Ts{none, at(1), at(5), at(6), greatest} {
			for _, v := range []api.Ts{at(1), at(5), at(6), greatest} {
				if e.Kind == lay {
					e.Start, e.Min = u, v
				} else if e.Start != none && e.At != none {
					e.Start, e.At = u, v
				}
				wrote(t, e, bytesOf(e))
			}
		}
	}
}

func TestPrimary(t *testing.T) {
	e := few()[1]
	for n := range 300 {
		e.Primary = strings.Repeat("\xff", n)
		if n >= 1 && n <= 32 {
			wrote(t, e, bytesOf(e))
		} else {
			refused(t, e)
			unread(t, bytesOf(e))
		}
	}
	for _, s := range []string{"\x00", "a\x00b", "é", "no key of the writes"} {
		e.Primary = s
		wrote(t, e, bytesOf(e))
	}
}

func TestWritesOfLay(t *testing.T) {
	e := few()[1]
	for n := range 40 {
		e.Writes = nil
		for i := range n {
			e.Writes = append(e.Writes, api.Write{Key: string(rune('z' - i)), Val: "x", Dead: false})
		}
		if n >= 1 && n <= 16 {
			wrote(t, e, bytesOf(e))
			slices.Reverse(e.Writes)
			wrote(t, e, bytesOf(e))
		} else {
			refused(t, e)
			unread(t, bytesOf(e))
		}
	}
	for _, l := range []writes{
		{{Key: "b"}, {Key: "a"}},
		{{Key: "a"}, {Key: "b"}},
		{{Key: "b"}, {Key: "c"}, {Key: "a"}},
		{{Key: "a", Dead: true}},
		{{Key: "a", Dead: true}, {Key: "b"}},
		{{Key: "a", Val: val}},
		{{Key: key, Val: val}},
		{{Key: key, Dead: true}},
		{{Key: "\x00", Val: "\x00\xff"}},
		{{Key: "a"}, {Key: "aa"}, {Key: "a\x00"}, {Key: "A"}},
		many(16),
	} {
		e.Writes = l
		wrote(t, e, bytesOf(e))
	}
	for _, l := range []writes{
		{{Key: "a"}, {Key: "a"}},
		{{Key: "a", Val: "x"}, {Key: "a", Dead: true}},
		{{Key: "a"}, {Key: "b"}, {Key: "a"}},
		append(many(15), many(1)...),
		many(17),
	} {
		e.Writes = l
		refused(t, e)
		unread(t, bytesOf(e))
	}
}

// A write that is wrong is wrong at each place among others.
func TestWrongWrites(t *testing.T) {
	for _, l := range wrongWrites() {
		for _, e := range few() {
			if e.Writes == nil {
				continue
			}
			e.Writes = l
			refused(t, e)
			unread(t, bytesOf(e))
		}
		for n := 1; n < maxWrites; n++ {
			for place := range n + 1 {
				e := few()[1]
				e.Writes = slices.Insert(many(n), place, l[0])
				refused(t, e)
				unread(t, bytesOf(e))
			}
		}
	}
}

func TestKeysAndValues(t *testing.T) {
	for _, kind := range []int{1, 7} {
		e := few()[kind]
		for n := range 300 {
			e.Writes = writes{{Key: "a", Val: strings.Repeat("v", n)}}
			if n <= 256 {
				wrote(t, e, bytesOf(e))
			} else {
				refused(t, e)
				unread(t, bytesOf(e))
			}
			e.Writes = writes{{Key: strings.Repeat("k", n), Val: "x"}}
			if n >= 1 && n <= 32 {
				wrote(t, e, bytesOf(e))
			} else {
				refused(t, e)
				unread(t, bytesOf(e))
			}
		}
	}
}

func TestWritesOfHave(t *testing.T) {
	e := few()[7]
	for _, l := range []writes{{{Key: "a"}}, {{Key: "a", Val: "x"}}, {{Key: "a", Dead: true}}, many(1)} {
		e.Writes = l
		wrote(t, e, bytesOf(e))
	}
	head := "\x08\x01\x02\x09\x00"
	for n := range 20 {
		e.Writes = many(n)
		if n != 1 {
			refused(t, e)
			s := head
			for _, w := range e.Writes {
				s += write(w)
			}
			unread(t, s)
		}
		// Its write is no list.
		unread(t, head+list(e.Writes))
	}
	unread(t, head+"\x01\x01a\x00\x00")
	wrote(t, api.Entry{Kind: have, By: txn, At: at(9), Writes: writes{{Key: "\x01", Dead: true}}}, head+"\x01\x01\x01\x00")
}

func TestBookOfNone(t *testing.T) {
	for _, start := range []api.Ts{none, at(5), greatest} {
		for n := range 256 {
			for _, end := range []bool{false, true} {
				e := api.Entry{Kind: book, By: txn, Start: start, Parts: uint8(n), Done: end}
				if n == 0 && !end {
					wrote(t, e, bytesOf(e))
				} else {
					refused(t, e)
					unread(t, bytesOf(e))
				}
				e.At = api.Ts{L: 1}
				wrote(t, e, bytesOf(e))
				e.At = at(1)
				wrote(t, e, bytesOf(e))
			}
		}
	}
}

// Parts are a number of one byte, of which the greatest take two.
func TestParts(t *testing.T) {
	for n := range uint64(256) {
		wrote(t, api.Entry{Kind: commit, By: txn, Start: at(5), At: at(9), Parts: uint8(n)}, "\x03\x01\x02\x05\x00\x09\x00"+number(n))
		wrote(t, api.Entry{Kind: book, By: txn, Start: at(5), At: at(9), Parts: uint8(n)}, "\x09\x01\x02\x05\x00\x09\x00"+number(n)+"\x00")
		wrote(t, api.Entry{Kind: book, By: txn, Start: at(5), At: at(9), Parts: uint8(n), Done: true}, "\x09\x01\x02\x05\x00\x09\x00"+number(n)+"\x01")
	}
	for _, n := range []uint64{256, 257, 511, 512, 65536, 1 << 32, math.MaxUint64} {
		unread(t, "\x03\x01\x02\x05\x00\x09\x00"+number(n))
		unread(t, "\x09\x01\x02\x05\x00\x09\x00"+number(n)+"\x00")
	}
}

// Entries of all Kinds, and of some that aren't there, with all fields set to one of few values each.
func TestAllOfFewValues(t *testing.T) {
	taken := 0
	stamps := []api.Ts{none, at(5), {P: maxPhys, L: maxLogic + 1}}
	lists := []writes{nil, {{Key: "a", Val: "x"}}, {{Key: "b"}, {Key: "a", Dead: true}}, {{Key: "a", Val: "x", Dead: true}}}
	var heads []api.Entry
	for kind := -1; kind <= 11; kind++ {
		for _, by := range []api.Txn{{}, txn} {
			for _, start := range stamps {
				for _, end := range stamps {
					for _, least := range stamps {
						heads = append(heads, api.Entry{Kind: kind, By: by, Start: start, At: end, Min: least})
					}
				}
			}
		}
	}
	for _, e := range heads {
		for _, e.Primary = range []string{"", "a", key + "k"} {
			for _, e.Parts = range []uint8{0, 3} {
				for _, e.Done = range []bool{false, true} {
					for _, e.Writes = range lists {
						asPlain(t, e)
						if right(e) {
							taken++
						}
					}
				}
			}
		}
	}
	// Of the Kinds 1 to 9 as many as can be told by hand.
	if want := 2 + 2*2*2*2 + 2*2*2 + 2 + 2*2 + 2 + 2 + 2*2 + (2*2 + 2*2*2*2); taken != want {
		t.Errorf("%d of them are right, want %d", taken, want)
	}
}

func TestReadNothing(t *testing.T) {
	unread(t, "")
	for b := range 256 {
		unread(t, string([]byte{byte(b)}))
	}
}

func TestReadBeginnings(t *testing.T) {
	for _, e := range slices.Concat(few(), great()) {
		s := bytesOf(e)
		for n := range len(s) {
			unread(t, s[:n])
		}
	}
}

func TestReadWithMoreBehind(t *testing.T) {
	for _, e := range slices.Concat(few(), great()) {
		for b := range 256 {
			unread(t, bytesOf(e)+string([]byte{byte(b)}))
		}
		for _, more := range slices.Concat(few(), great()) {
			unread(t, bytesOf(e)+bytesOf(more))
		}
	}
}

func TestReadWithOneByteTurned(t *testing.T) {
	taken := 0
	for i, e := range slices.Concat(few(), great()) {
		s := []byte(bytesOf(e))
		for place, is := range s {
			step := 1
			if i >= 9 {
				step = 37 // the great ones are long
			}
			for b := 0; b < 256; b += step {
				s[place] = byte(b)
				if readAsPlain(t, string(s)) {
					taken++
				}
			}
			s[place] = is
		}
	}
	if taken < 1000 {
		t.Errorf("only %d of them are entries", taken)
	}
}

// A number has one form: with more bytes than it needs it is none, wherever it stands.
func TestReadLongNumbers(t *testing.T) {
	pieces := [][]string{
		{"#1", "#5", "#7"},
		{"#2", "#1", "#2", "#5", "#0", "#6", "#7", "#1", "p", "#1", "#1", "b", "\x00", "#1", "x"},
		{"#3", "#1", "#2", "#5", "#0", "#9", "#0", "#3"},
		{"#4", "#1", "#2", "#9", "#0"},
		{"#5", "#1", "#2", "#5", "#0"},
		{"#6", "#4", "#0"},
		{"#7", "#1", "#2"},
		{"#8", "#1", "#2", "#9", "#0", "#1", "b", "\x00", "#1", "x"},
		{"#9", "#1", "#2", "#5", "#0", "#9", "#0", "#3", "\x01"},
	}
	for _, l := range pieces {
		for long := -1; long < len(l); long++ {
			for behind := 1; behind <= 8; behind++ {
				s := told(l, long, behind)
				if _, err := entry.Read(s); (err == api.OK) != (long < 0 || l[long][0] != '#') {
					t.Fatalf("Read(%x): %d", s, err)
				}
				readAsPlain(t, s)
			}
		}
	}
}

// told answers the pieces, the numbers (# and a digit) as bytes, one of them with more bytes than it needs.
func told(pieces []string, one, behind int) string {
	s := ""
	for i, p := range pieces {
		switch {
		case p[0] != '#':
			s += p
		case i == one:
			s += long(uint64(p[1]-'0'), behind)
		default:
			s += number(uint64(p[1] - '0'))
		}
	}
	return s
}

func TestReadFlags(t *testing.T) {
	for b := range 256 {
		f := string([]byte{byte(b)})
		well := b < 2
		for _, s := range []string{
			"\x09\x01\x02\x05\x00\x09\x00\x03" + f,
			"\x08\x01\x02\x09\x00\x01b" + f + "\x00",
			"\x02\x01\x02\x05\x00\x06\x00\x01p\x01\x01b" + f + "\x00",
			"\x02\x01\x02\x05\x00\x06\x00\x01p\x02\x01b\x00\x00\x01a" + f + "\x00",
		} {
			got, err := entry.Read(s)
			if (err == api.OK) != well {
				t.Fatalf("Read(%x): %d", s, err)
			}
			if !well {
				unread(t, s)
			} else if set := got.Done || len(got.Writes) > 0 && got.Writes[len(got.Writes)-1].Dead; set != (b == 1) {
				t.Fatalf("Read(%x): %v", s, got)
			}
		}
	}
}

// A list that tells of more or fewer writes than there are.
func TestReadCounts(t *testing.T) {
	head := "\x02\x01\x02\x05\x00\x06\x00\x01p"
	for n := range 20 {
		all := ""
		for i := range n {
			all += write(api.Write{Key: string(rune('a' + i))})
		}
		for _, count := range []uint64{0, 1, 2, 3, 4, 15, 16, 17, 18, 247, 248, 255, 256, 256 + 1, 1 << 16, 1<<32 + 1, 1 << 63, 1<<63 + 1, math.MaxUint64} {
			s := head + number(count) + all
			if count == uint64(n) && n >= 1 && n <= 16 {
				if got, err := entry.Read(s); err != api.OK || len(got.Writes) != n {
					t.Fatalf("Read(%x): %v %d", s, got, err)
				}
			} else {
				unread(t, s)
			}
			unread(t, head+number(count))
		}
	}
}

// A text that tells of more bytes than there are, or than there may be.
func TestReadLengths(t *testing.T) {
	for _, n := range []uint64{2, 31, 32, 33, 247, 248, 256, 257, 1 << 16, 1 << 31, 1 << 32, 1<<32 + 1, 1 << 63, 1<<63 + 1, math.MaxUint64} {
		unread(t, "\x02\x01\x02\x05\x00\x06\x00"+number(n)+"p\x01\x01b\x00\x00")
		unread(t, "\x02\x01\x02\x05\x00\x06\x00\x01p\x01"+number(n)+"b\x00\x00")
		unread(t, "\x02\x01\x02\x05\x00\x06\x00\x01p\x01\x01b\x00"+number(n)+"x")
		unread(t, "\x08\x01\x02\x09\x00"+number(n)+"b\x00\x00")
		unread(t, "\x08\x01\x02\x09\x00\x01b\x00"+number(n)+"x")
	}
}

// Read of Write is the entry; what Read takes Write gives.

// All texts of up to nine bytes out of few, which is enough for each Kind but Lay.
func TestAllShortTexts(t *testing.T) {
	taken := make([]int, 10)
	var try func(s []byte, room int)
	try = func(s []byte, room int) {
		if readAsPlain(t, string(s)) {
			taken[s[0]]++
		}
		if room == 0 {
			return
		}
		// The first byte is a Kind, the others are few.
		l := []byte{0, 1, 2, 248}
		if len(s) == 0 {
			l = []byte{0, 1, 2, 3, 4, 5, 6, 7, 8, 9, 10, 248}
		}
		for _, b := range l {
			try(append(s, b), room-1)
		}
	}
	try(nil, 9)
	for _, kind := range []int{bound, commit, apply, undo, safe, done, have, book} {
		if taken[kind] == 0 {
			t.Errorf("no entry of Kind %d", kind)
		}
	}
}

func TestEntriesByChance(t *testing.T) {
	r := rand.New(rand.NewSource(12))
	taken := make([]int, 10)
	for range 60000 {
		e := chance(r)
		asPlain(t, e)
		if right(e) {
			taken[e.Kind]++
		}
	}
	for kind, n := range taken {
		if kind > 0 && n < 1000 {
			t.Errorf("only %d entries of Kind %d", n, kind)
		}
	}
}

// No two entries have the same bytes.
func TestBytesDiffer(t *testing.T) {
	r := rand.New(rand.NewSource(13))
	whose := map[string]api.Entry{}
	for range 40000 {
		e := chance(r)
		s, err := entry.Write(e)
		if err != api.OK {
			continue
		}
		if before, ok := whose[s]; ok && !same(before, e) {
			t.Fatalf("%x are the bytes of %v and of %v", s, before, e)
		}
		whose[s] = e
	}
	if len(whose) < 20000 {
		t.Errorf("only %d entries", len(whose))
	}
}

// Bytes of entries in which some are turned, cut out, put in or doubled.
func TestSpoiltBytesByChance(t *testing.T) {
	r := rand.New(rand.NewSource(14))
	taken := 0
	for range 60000 {
		s, _ := entry.Write(chance(r))
		l := []byte(s)
		for range 1 + r.Intn(3) {
			place := r.Intn(min(len(l), 24) + 1)
			switch r.Intn(4) {
			case 0:
				l = slices.Insert(l, place, byte(r.Intn(256)))
			case 1:
				l = slices.Delete(l, place, min(place+1+r.Intn(3), len(l)))
			case 2:
				l = append(l, l[place:]...)
			default:
				if place < len(l) {
					l[place] = byte(r.Intn(12))
				}
			}
		}
		if readAsPlain(t, string(l)) {
			taken++
		}
	}
	if taken < 1000 {
		t.Errorf("only %d of them are entries", taken)
	}
}

// Bytes by chance, the first one a Kind.
func TestBytesByChance(t *testing.T) {
	r := rand.New(rand.NewSource(15))
	for range 100000 {
		l := make([]byte, 1+r.Intn(40))
		for i := range l {
			l[i] = byte(r.Intn(256))
			if r.Intn(3) > 0 {
				l[i] %= 4
			}
		}
		l[0] %= 11
		readAsPlain(t, string(l))
	}
}

// P12.2: no right entry has more than MaxRecord bytes.

func TestGreatestEntries(t *testing.T) {
	// A number of 32 bits takes 5 bytes, the greatest stamp 8 and 3, a key 33, a value 3 and 256.
	sizes := []int{1 + 11, 1 + 10 + 22 + 33 + 1 + 16*(33+1+259), 1 + 10 + 22 + 2, 1 + 10 + 11, 1 + 10 + 11, 1 + 11, 1 + 10, 1 + 10 + 11 + 33 + 1 + 259, 1 + 10 + 22 + 2 + 1}
	for i, e := range great() {
		s, err := entry.Write(e)
		if err != api.OK || len(s) != sizes[i] || len(s) > maxRecord || len(s) > api.MaxRecord {
			t.Errorf("Kind %d: %d bytes, %d, want %d", e.Kind, len(s), err, sizes[i])
		}
	}
}

func TestNoEntryIsGreater(t *testing.T) {
	most := make([]int, 10)
	for _, e := range great() {
		most[e.Kind] = len(bytesOf(e))
	}
	r := rand.New(rand.NewSource(16))
	for range 60000 {
		e := chance(r)
		if s, err := entry.Write(e); err == api.OK && len(s) > most[e.Kind] {
			t.Fatalf("Write(%v): %d bytes", e, len(s))
		}
	}
}

// What is a byte more than the greatest in one of its texts, or has a write more, isn't right, so that it can't be greater.
func TestBeyondTheGreatest(t *testing.T) {
	e := great()[1]
	e.Writes = append(e.Writes, api.Write{Key: "a"})
	refused(t, e)
	for i := range maxWrites {
		e = great()[1]
		e.Writes[i].Val += "v"
		refused(t, e)
		e = great()[1]
		e.Writes[i].Key += "k"
		refused(t, e)
	}
	e = great()[1]
	e.Primary += "k"
	refused(t, e)
	for _, n := range []int{maxRecord, maxRecord + 1, 1 << 20} {
		e = few()[1]
		e.Primary = strings.Repeat("p", n)
		refused(t, e)
		e = few()[7]
		e.Writes = writes{{Key: "a", Val: strings.Repeat("p", n)}}
		refused(t, e)
		unread(t, strings.Repeat("\x07", n))
	}
}

// R4, R7: memory, and one answer.

// What is handed in is neither changed nor kept.
func TestArgumentsAreLeft(t *testing.T) {
	for _, kind := range []int{1, 7} {
		e := few()[kind]
		room := append(slices.Clone(e.Writes), many(3)...)
		e.Writes = room[:len(e.Writes)]
		before := slices.Clone(room)
		first, _ := entry.Write(e)
		entry.Right(e)
		if !slices.Equal(room, before) {
			t.Fatalf("Kind %d: the writes handed in are %v, were %v", e.Kind, room, before)
		}
		for i := range room {
			room[i] = api.Write{Key: "other", Val: "o"}
		}
		if first != bytesOf(few()[kind]) {
			t.Fatalf("Kind %d: the bytes have become %x", e.Kind, first)
		}
		wrote(t, few()[kind], first)
	}
}

// A list that was answered is new memory.
func TestAnswersAreNew(t *testing.T) {
	for _, e := range slices.Concat(few(), great()) {
		s := bytesOf(e)
		a, _ := entry.Read(s)
		b, _ := entry.Read(s)
		for i := range a.Writes {
			a.Writes[i] = api.Write{Key: "other", Dead: true}
		}
		a.Writes = append(a.Writes, api.Write{Key: "more"})
		if !same(b, e) {
			t.Fatalf("Kind %d: %v, was %v", e.Kind, b, e)
		}
		wrote(t, e, s)
	}
}

// Calls in any order answer the same.
func TestOneAnswer(t *testing.T) {
	r := rand.New(rand.NewSource(17))
	l := slices.Concat(few(), great())
	for range 3000 {
		e := l[r.Intn(len(l))]
		wrote(t, e, bytesOf(e))
		if r.Intn(2) == 0 {
			refused(t, api.Entry{Kind: e.Kind, Min: api.Ts{P: maxPhys + 1}})
			unread(t, bytesOf(e)+"\x00")
		}
	}
}
