package entry_test

import (
	"math"
	"math/rand"
	"slices"
	"strings"
	"testing"

	"dovecote/api"
	"dovecote/entry"
)

const (
	maxPhys   = uint64(281474976710656)
	maxLogic  = uint32(4095)
	maxKey    = 32
	maxVal    = 256
	maxWrites = 16
	maxRecord = 16000
)

// The Kinds, as the chapter numbers them.
const (
	bound  = 1
	lay    = 2
	commit = 3
	apply  = 4
	undo   = 5
	safe   = 6
	done   = 7
	have   = 8
	book   = 9
)

var (
	txn      = api.Txn{Client: 1, N: 2}
	last     = api.Txn{Client: math.MaxUint32, N: math.MaxUint32}
	none     = api.Ts{}
	greatest = api.Ts{P: maxPhys, L: maxLogic}
	key      = strings.Repeat("k", maxKey)
	val      = strings.Repeat("v", maxVal)
)

type writes = []api.Write

// at answers a stamp of whole numbers alone.
func at(p uint64) api.Ts { return api.Ts{P: p} }

// same tells whether two entries are the same.
func same(a, b api.Entry) bool {
	return a.Kind == b.Kind && a.By == b.By && a.Start == b.Start && a.At == b.At && a.Min == b.Min &&
		a.Primary == b.Primary && a.Parts == b.Parts && a.Done == b.Done && slices.Equal(a.Writes, b.Writes)
}

// just answers e with no more than the fields of its Kind; an entry without a Kind, if there is no such Kind.
func just(e api.Entry) api.Entry {
	switch e.Kind {
	case bound:
		return api.Entry{Kind: bound, At: e.At}
	case lay:
		return api.Entry{Kind: lay, By: e.By, Start: e.Start, Min: e.Min, Primary: e.Primary, Writes: e.Writes}
	case commit:
		return api.Entry{Kind: commit, By: e.By, Start: e.Start, At: e.At, Parts: e.Parts}
	case apply:
		return api.Entry{Kind: apply, By: e.By, At: e.At}
	case undo:
		return api.Entry{Kind: undo, By: e.By, Start: e.Start}
	case safe:
		return api.Entry{Kind: safe, At: e.At}
	case done:
		return api.Entry{Kind: done, By: e.By}
	case have:
		return api.Entry{Kind: have, By: e.By, At: e.At, Writes: e.Writes}
	case book:
		return api.Entry{Kind: book, By: e.By, Start: e.Start, At: e.At, Parts: e.Parts, Done: e.Done}
	}
	return api.Entry{}
}

// rightStamp tells whether u is within the limits of stamps.
func rightStamp(u api.Ts) bool { return u.P <= maxPhys && u.L <= maxLogic }

// rightWrites tells whether l are writes that can be laid together.
func rightWrites(l writes) bool {
	seen := map[string]int{}
	for _, w := range l {
		seen[w.Key]++
		if len(w.Key) == 0 || len(w.Key) > maxKey || len(w.Val) > maxVal || w.Dead && w.Val != "" || seen[w.Key] > 1 {
			return false
		}
	}
	return len(l) > 0 && len(l) <= maxWrites
}

// right is the chapter's words on which entry is right a second time.
func right(e api.Entry) bool {
	if e.Kind == 0 || !same(e, just(e)) || !rightStamp(e.Start) || !rightStamp(e.At) || !rightStamp(e.Min) {
		return false
	}
	switch e.Kind {
	case lay:
		return len(e.Primary) > 0 && len(e.Primary) <= maxKey && rightWrites(e.Writes)
	case commit, apply:
		return e.At != none
	case have:
		return len(e.Writes) == 1 && rightWrites(e.Writes)
	case book:
		return e.At != none || e.Parts == 0 && !e.Done
	}
	return true
}

// number answers n as bytes: by the places of base 256.
func number(n uint64) string {
	if n < 248 {
		return string([]byte{byte(n)})
	}
	var l []byte
	for ; n > 0; n /= 256 {
		l = append([]byte{byte(n % 256)}, l...)
	}
	return string([]byte{byte(247 + len(l))}) + string(l)
}

// long answers n as bytes, with as many behind the first one as said.
func long(n uint64, behind int) string {
	var l []byte
	for range behind {
		l = append([]byte{byte(n % 256)}, l...)
		n /= 256
	}
	return string([]byte{byte(247 + behind)}) + string(l)
}

func text(s string) string { return number(uint64(len(s))) + s }

func time(u api.Ts) string { return number(u.P) + number(uint64(u.L)) }

func name(by api.Txn) string { return number(uint64(by.Client)) + number(uint64(by.N)) }

func flag(b bool) string {
	if b {
		return "\x01"
	}
	return "\x00"
}

func write(w api.Write) string { return text(w.Key) + flag(w.Dead) + text(w.Val) }

func list(l writes) string {
	s := number(uint64(len(l)))
	for _, w := range l {
		s += write(w)
	}
	return s
}

// bytesOf answers the bytes of a right entry.
func bytesOf(e api.Entry) string {
	s := number(uint64(e.Kind))
	switch e.Kind {
	case bound, safe:
		return s + time(e.At)
	case lay:
		return s + name(e.By) + time(e.Start) + time(e.Min) + text(e.Primary) + list(e.Writes)
	case commit:
		return s + name(e.By) + time(e.Start) + time(e.At) + number(uint64(e.Parts))
	case apply:
		return s + name(e.By) + time(e.At)
	case undo:
		return s + name(e.By) + time(e.Start)
	case done:
		return s + name(e.By)
	case have:
		return s + name(e.By) + time(e.At) + write(e.Writes[0])
	}
	return s + name(e.By) + time(e.Start) + time(e.At) + number(uint64(e.Parts)) + flag(e.Done)
}

// taker takes bytes as well as it can; whether they were of the form is asked of what came of them.
type taker struct {
	left string
}

func (k *taker) number() uint64 {
	if k.left == "" {
		return 0
	}
	b := k.left[0]
	k.left = k.left[1:]
	if b < 248 {
		return uint64(b)
	}
	var n uint64
	for ; b > 247 && k.left != ""; b-- {
		n = n*256 + uint64(k.left[0])
		k.left = k.left[1:]
	}
	return n
}

func (k *taker) text() string {
	n := int(min(k.number(), uint64(len(k.left))))
	s := k.left[:n]
	k.left = k.left[n:]
	return s
}

func (k *taker) time() api.Ts {
	p := k.number()
	return api.Ts{P: p, L: uint32(k.number())}
}

func (k *taker) write() api.Write {
	w := api.Write{Key: k.text()}
	w.Dead = k.number() != 0
	w.Val = k.text()
	return w
}

func (k *taker) list() writes {
	var l writes
	for range min(k.number(), 100) {
		l = append(l, k.write())
	}
	return l
}

// entryOf answers the right entry of which s is the bytes: one that could be made of s, and whose bytes are s again.
func entryOf(s string) (api.Entry, api.Errno) {
	k := &taker{left: s}
	e := api.Entry{Kind: int(k.number())}
	if e.Kind != bound && e.Kind != safe {
		e.By.Client = uint32(k.number())
		e.By.N = uint32(k.number())
	}
	switch e.Kind {
	case bound, safe, apply:
		e.At = k.time()
	case lay:
		e.Start = k.time()
		e.Min = k.time()
		e.Primary = k.text()
		e.Writes = k.list()
	case commit, book:
		e.Start = k.time()
		e.At = k.time()
		e.Parts = uint8(k.number())
		e.Done = e.Kind == book && k.number() != 0
	case undo:
		e.Start = k.time()
	case have:
		e.At = k.time()
		e.Writes = writes{k.write()}
	}
	if !right(e) || bytesOf(e) != s {
		return api.Entry{}, api.ErrForm
	}
	return e, api.OK
}

// wrote asks that e is right, that its bytes are want, and that they are read as e.
func wrote(t *testing.T, e api.Entry, want string) {
	t.Helper()
	if !entry.Right(e) {
		t.Fatalf("Right(%v): false", e)
	}
	if got, err := entry.Write(e); got != want || err != api.OK {
		t.Fatalf("Write(%v): %x %d, want %x", e, got, err, want)
	}
	if got, err := entry.Read(want); !same(got, e) || err != api.OK {
		t.Fatalf("Read(%x): %v %d, want %v", want, got, err, e)
	}
}

// refused asks that e isn't right, and not written.
func refused(t *testing.T, e api.Entry) {
	t.Helper()
	if entry.Right(e) {
		t.Fatalf("Right(%v): true", e)
	}
	if got, err := entry.Write(e); got != "" || err != api.ErrArg {
		t.Fatalf("Write(%v): %x %d, want ErrArg", e, got, err)
	}
}

// unread asks that s is the bytes of no entry.
func unread(t *testing.T, s string) {
	t.Helper()
	if got, err := entry.Read(s); !same(got, api.Entry{}) || err != api.ErrForm {
		t.Fatalf("Read(%x): %v %d, want ErrForm", s, got, err)
	}
}

// asPlain holds Right and Write of e against the plain ones.
func asPlain(t *testing.T, e api.Entry) {
	t.Helper()
	if right(e) {
		wrote(t, e, bytesOf(e))
	} else {
		refused(t, e)
	}
}

// readAsPlain holds Read of s against the plain one, and against Write; it answers whether s was taken.
func readAsPlain(t *testing.T, s string) bool {
	t.Helper()
	got, err := entry.Read(s)
	if want, no := entryOf(s); !same(got, want) || err != no {
		t.Fatalf("Read(%x): %v %d, want %v %d", s, got, err, want, no)
	}
	if err != api.OK {
		return false
	}
	if back, no := entry.Write(got); back != s || no != api.OK {
		t.Fatalf("Write(%v), read from %x: %x %d", got, s, back, no)
	}
	return true
}

// few answers an entry of each Kind, all of its fields other than zero.
func few() []api.Entry {
	l := writes{{Key: "b", Val: "x"}, {Key: "a", Dead: true}}
	return []api.Entry{
		{Kind: bound, At: api.Ts{P: 300, L: 2}},
		{Kind: lay, By: txn, Start: at(5), Min: api.Ts{P: 6, L: 7}, Primary: "p", Writes: l},
		{Kind: commit, By: txn, Start: at(5), At: at(9), Parts: 3},
		{Kind: apply, By: txn, At: at(9)},
		{Kind: undo, By: txn, Start: at(5)},
		{Kind: safe, At: at(4)},
		{Kind: done, By: txn},
		{Kind: have, By: txn, At: at(9), Writes: l[:1]},
		{Kind: book, By: txn, Start: at(5), At: at(9), Parts: 3, Done: true},
	}
}

// great answers the entry of each Kind whose bytes are the most.
func great() []api.Entry {
	return []api.Entry{
		{Kind: bound, At: greatest},
		{Kind: lay, By: last, Start: greatest, Min: greatest, Primary: key, Writes: many(maxWrites)},
		{Kind: commit, By: last, Start: greatest, At: greatest, Parts: 255},
		{Kind: apply, By: last, At: greatest},
		{Kind: undo, By: last, Start: greatest},
		{Kind: safe, At: greatest},
		{Kind: done, By: last},
		{Kind: have, By: last, At: greatest, Writes: many(1)},
		{Kind: book, By: last, Start: greatest, At: greatest, Parts: 255, Done: true},
	}
}

// many answers n writes of the greatest length, the last key first.
func many(n int) writes {
	var l writes
	for i := range n {
		l = append(l, api.Write{Key: key[1:] + string(rune('z'-i)), Val: val})
	}
	return l
}

// wrongStamps answers stamps that aren't right.
func wrongStamps() []api.Ts {
	return []api.Ts{{P: maxPhys + 1}, {P: 5, L: maxLogic + 1}, {P: maxPhys, L: maxLogic + 1}, {P: maxPhys + 1, L: maxLogic + 1}, {P: math.MaxUint64}, {L: maxLogic + 1}, {L: math.MaxUint32}, {P: math.MaxUint64, L: math.MaxUint32}}
}

// rightStamps answers stamps that are right, none of them none.
func rightStamps() []api.Ts {
	return []api.Ts{{L: 1}, at(1), {P: 1, L: 1}, at(247), at(248), {P: 255, L: 247}, {P: 256, L: 248}, {P: 5, L: maxLogic}, {P: 65535, L: 255}, {P: 65536, L: 256}, at(maxPhys - 1), at(maxPhys), greatest}
}

// wrongWrites answers lists of writes of which each is wrong by one thing, but not for how many there are.
func wrongWrites() []writes {
	more := key + "k"
	return []writes{
		{{}},
		{{Val: "x"}},
		{{Dead: true}},
		{{Key: more}},
		{{Key: more, Val: "x"}},
		{{Key: more, Dead: true}},
		{{Key: "a", Val: val + "v"}},
		{{Key: "a", Val: "x", Dead: true}},
		{{Key: "a", Val: val, Dead: true}},
		{{Key: "a", Val: val + "v", Dead: true}},
	}
}

// someStamp answers one of few stamps, seldom one that isn't right.
func someStamp(r *rand.Rand) api.Ts {
	switch r.Intn(60) {
	case 0:
		return wrongStamps()[r.Intn(len(wrongStamps()))]
	case 1:
		return none
	}
	l := rightStamps()
	return l[r.Intn(len(l))]
}

// someText answers a text of least to most bytes, often one of the shortest, seldom one more or less.
func someText(r *rand.Rand, least, most int) string {
	n := least + r.Intn(4)
	switch r.Intn(60) {
	case 0:
		n = most + 1
	case 1:
		n = max(least-1, 0)
	case 2, 3, 4, 5:
		n = most
	}
	l := make([]byte, n)
	for i := range l {
		l[i] = byte(r.Intn(256))
	}
	return string(l)
}

// someWrites answers writes, seldom ones that aren't right.
func someWrites(r *rand.Rand) writes {
	n := 1 + r.Intn(4)
	switch r.Intn(30) {
	case 0:
		n = 0
	case 1:
		n = maxWrites
	case 2:
		n = maxWrites + 1
	}
	var l writes
	for range n {
		w := api.Write{Key: someText(r, 1, maxKey), Dead: r.Intn(3) == 0}
		if !w.Dead || r.Intn(60) == 0 {
			w.Val = someText(r, 0, maxVal)
		}
		l = append(l, w)
	}
	return l
}

// chance answers an entry by chance, mostly a right one.
func chance(r *rand.Rand) api.Entry {
	e := api.Entry{
		Kind: 1 + r.Intn(9),
		By:   api.Txn{Client: uint32(r.Uint64() >> (32 + r.Intn(33))), N: uint32(r.Uint64() >> (32 + r.Intn(33)))},

		Start: someStamp(r), At: someStamp(r), Min: someStamp(r),
		Primary: someText(r, 1, maxKey), Parts: uint8(r.Intn(256)), Done: r.Intn(2) == 0, Writes: someWrites(r),
	}
	if e.Kind == have && r.Intn(10) > 0 {
		e.Writes = e.Writes[:min(len(e.Writes), 1)]
	}
	if e.Kind == book && r.Intn(3) == 0 {
		e.At = none
		if r.Intn(3) > 0 {
			e.Parts, e.Done = 0, false
		}
	}
	if r.Intn(20) == 0 {
		return e
	}
	return just(e)
}
