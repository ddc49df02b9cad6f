package letter_test

import (
	"math"
	"math/rand"
	"slices"
	"strings"
	"testing"

	"dovecote/api"
	"dovecote/letter"
)

const (
	maxPhys    = uint64(281474976710656)
	maxLogic   = uint32(4095)
	maxKey     = 32
	maxVal     = 256
	maxWrites  = 16
	maxSkips   = 16
	maxScan    = 32
	maxClients = 4
	maxShards  = 8
	maxParts   = 255
	maxErr     = 255
	firstAsk   = 1
	lastAsk    = 9
	lastSaid   = 10
)

var (
	txn      = api.Txn{Client: 1, N: 2}
	last     = api.Txn{Client: math.MaxUint32, N: math.MaxUint32}
	none     = api.Ts{}
	greatest = api.Ts{P: maxPhys, L: maxLogic}
	key      = strings.Repeat("k", maxKey)
	val      = strings.Repeat("v", maxVal)
)

type (
	writes = []api.Write
	txns   = []api.Txn
	pairs  = []api.Pair
)

// at answers a stamp of whole numbers alone.
func at(p uint64) api.Ts { return api.Ts{P: p} }

// sameAsk tells whether two requests are the same, of empty lists whether nil or not.
func sameAsk(a, b api.Request) bool {
	return a.Kind == b.Kind && a.By == b.By && a.Start == b.Start && a.At == b.At && a.Key == b.Key && a.To == b.To &&
		a.Limit == b.Limit && a.Parts == b.Parts && slices.Equal(a.Writes, b.Writes) && slices.Equal(a.Skips, b.Skips)
}

// sameReply tells whether two replies are the same, lists likewise.
func sameReply(a, b api.Reply) bool {
	return a.Kind == b.Kind && a.Err == b.Err && a.Found == b.Found && a.Val == b.Val && slices.Equal(a.Pairs, b.Pairs) &&
		a.Who == b.Who && a.Start == b.Start && a.At == b.At && a.Primary == b.Primary && a.Now == b.Now
}

// same tells whether two letters are the same.
func same(a, b api.Letter) bool {
	return a.Client == b.Client && a.Shard == b.Shard && a.Seq == b.Seq && a.Answer == b.Answer &&
		sameAsk(a.Ask, b.Ask) && sameReply(a.Reply, b.Reply)
}

// piece is one of the forms that a letter's bytes are made of.
type piece struct {
	what        byte // n: a number, f: a flag, t: a text, c: how many a list has
	n           uint64
	s           string
	least, most uint64 // of a number and a count; of a text's length
}

func num(n, most uint64) piece { return piece{what: 'n', n: n, most: most} }

func from(least, n, most uint64) piece { return piece{what: 'n', n: n, least: least, most: most} }

func txt(s string, most uint64) piece { return piece{what: 't', s: s, most: most} }

func count(n int, most uint64) piece { return piece{what: 'c', n: uint64(n), most: most} }

func flag(b bool) piece {
	if b {
		return piece{what: 'f', n: 1, most: 1}
	}
	return piece{what: 'f', most: 1}
}

func time(u api.Ts) []piece { return []piece{num(u.P, maxPhys), num(uint64(u.L), uint64(maxLogic))} }

func name(by api.Txn) []piece {
	return []piece{num(uint64(by.Client), math.MaxUint32), num(uint64(by.N), math.MaxUint32)}
}

// piecesOf answers what l is made of, each with its bounds. A number below 0 is told as one far above all bounds.
func piecesOf(l api.Letter) []piece {
	p := []piece{num(uint64(l.Client), maxClients-1), num(uint64(l.Shard), maxShards-1), num(uint64(l.Seq), math.MaxUint32), flag(l.Answer)}
	if l.Answer {
		return append(p, replyPieces(l.Reply)...)
	}
	return append(p, askPieces(l.Ask)...)
}

func askPieces(a api.Request) []piece {
	p := slices.Concat([]piece{from(firstAsk, uint64(a.Kind), lastAsk)}, name(a.By), time(a.Start), time(a.At))
	p = append(p, txt(a.Key, maxKey), txt(a.To, maxKey), num(uint64(a.Limit), maxScan), num(uint64(a.Parts), maxParts))
	p = append(p, count(len(a.Writes), maxWrites))
	for _, w := range a.Writes {
		p = append(p, txt(w.Key, maxKey), flag(w.Dead), txt(w.Val, maxVal))
	}
	p = append(p, count(len(a.Skips), maxSkips))
	for _, by := range a.Skips {
		p = append(p, name(by)...)
	}
	return p
}

func replyPieces(a api.Reply) []piece {
	p := []piece{num(uint64(a.Kind), lastSaid), num(uint64(a.Err), maxErr), flag(a.Found), txt(a.Val, maxVal)}
	p = append(p, count(len(a.Pairs), maxScan))
	for _, one := range a.Pairs {
		p = append(p, txt(one.Key, maxKey), txt(one.Val, maxVal))
	}
	p = slices.Concat(p, name(a.Who), time(a.Start), time(a.At))
	return slices.Concat(append(p, txt(a.Primary, maxKey)), time(a.Now))
}

// within tells whether a piece is within its bounds.
func (p piece) within() bool {
	n := p.n
	if p.what == 't' {
		n = uint64(len(p.s))
	}
	return n >= p.least && n <= p.most
}

// right is the chapter's words on which letter is right a second time.
func right(l api.Letter) bool {
	if l.Answer && !sameAsk(l.Ask, api.Request{}) || !l.Answer && !sameReply(l.Reply, api.Reply{}) {
		return false
	}
	for _, p := range piecesOf(l) {
		if !p.within() {
			return false
		}
	}
	return true
}

// number answers n as bytes: by the places of base 256.
func number(n uint64) string {
	if n < 248 {
		return string([]byte{byte(n)})
	}
	var l []byte
	for ; n > 0; n /= 256 {
		l = append([]byte{byte(n % 256)}, l...)
	}
	return string([]byte{byte(247 + len(l))}) + string(l)
}

// long answers n as bytes, with as many behind the first one as said.
func long(n uint64, behind int) string {
	var l []byte
	for range behind {
		l = append([]byte{byte(n % 256)}, l...)
		n /= 256
	}
	return string([]byte{byte(247 + behind)}) + string(l)
}

// bytes answers a piece as bytes.
func (p piece) bytes() string {
	switch p.what {
	case 'f':
		return string([]byte{byte(p.n)})
	case 't':
		return number(uint64(len(p.s))) + p.s
	}
	return number(p.n)
}

// join answers the pieces as bytes.
func join(l []piece) string {
	var b strings.Builder
	for _, p := range l {
		b.WriteString(p.bytes())
	}
	return b.String()
}

// bytesOf answers the bytes of l.
func bytesOf(l api.Letter) string { return join(piecesOf(l)) }

// taker takes bytes as well as it can; whether they were of the form is asked of what came of them.
type taker struct {
	left string
}

func (k *taker) number() uint64 {
	if k.left == "" {
		return 0
	}
	b := k.left[0]
	k.left = k.left[1:]
	if b < 248 {
		return uint64(b)
	}
	var n uint64
	for ; b > 247 && k.left != ""; b-- {
		n = n*256 + uint64(k.left[0])
		k.left = k.left[1:]
	}
	return n
}

func (k *taker) small() uint32 { return uint32(k.number()) }

func (k *taker) flag() bool { return k.number() != 0 }

func (k *taker) text() string {
	n := int(min(k.number(), uint64(len(k.left))))
	s := k.left[:n]
	k.left = k.left[n:]
	return s
}

func (k *taker) time() api.Ts {
	p := k.number()
	return api.Ts{P: p, L: k.small()}
}

func (k *taker) name() api.Txn {
	c := k.small()
	return api.Txn{Client: c, N: k.small()}
}

func (k *taker) ask() api.Request {
	a := api.Request{Kind: int(k.number()), By: k.name()}
	a.Start = k.time()
	a.At = k.time()
	a.Key = k.text()
	a.To = k.text()
	a.Limit = int(k.number())
	a.Parts = uint8(k.number())
	for range min(k.number(), 100) {
		w := api.Write{Key: k.text()}
		w.Dead = k.flag()
		w.Val = k.text()
		a.Writes = append(a.Writes, w)
	}
	for range min(k.number(), 100) {
		a.Skips = append(a.Skips, k.name())
	}
	return a
}

func (k *taker) reply() api.Reply {
	a := api.Reply{Kind: int(k.number())}
	a.Err = api.Errno(k.number())
	a.Found = k.flag()
	a.Val = k.text()
	for range min(k.number(), 100) {
		one := api.Pair{Key: k.text()}
		one.Val = k.text()
		a.Pairs = append(a.Pairs, one)
	}
	a.Who = k.name()
	a.Start = k.time()
	a.At = k.time()
	a.Primary = k.text()
	a.Now = k.time()
	return a
}

// letterOf answers the right letter of which s is the bytes: one that could be made of s, and whose bytes are s again.
func letterOf(s string) (api.Letter, api.Errno) {
	k := &taker{left: s}
	l := api.Letter{Client: k.small()}
	l.Shard = k.small()
	l.Seq = k.small()
	l.Answer = k.flag()
	if l.Answer {
		l.Reply = k.reply()
	} else {
		l.Ask = k.ask()
	}
	if !right(l) || bytesOf(l) != s {
		return api.Letter{}, api.ErrForm
	}
	return l, api.OK
}

// wrote asks that l is right, that its bytes are want, and that they are read as l.
func wrote(t *testing.T, l api.Letter, want string) {
	t.Helper()
	if !letter.Right(l) {
		t.Fatalf("Right(%v): false", l)
	}
	if got, err := letter.Write(l); got != want || err != api.OK {
		t.Fatalf("Write(%v): %x %d, want %x", l, got, err, want)
	}
	if got, err := letter.Read(want); !same(got, l) || err != api.OK {
		t.Fatalf("Read(%x): %v %d, want %v", want, got, err, l)
	}
}

// refused asks that l isn't right, and not written.
func refused(t *testing.T, l api.Letter) {
	t.Helper()
	if letter.Right(l) {
		t.Fatalf("Right(%v): true", l)
	}
	if got, err := letter.Write(l); got != "" || err != api.ErrArg {
		t.Fatalf("Write(%v): %x %d, want ErrArg", l, got, err)
	}
}

// unread asks that s is the bytes of no letter.
func unread(t *testing.T, s string) {
	t.Helper()
	if got, err := letter.Read(s); !same(got, api.Letter{}) || err != api.ErrForm {
		t.Fatalf("Read(%x): %v %d, want ErrForm", s, got, err)
	}
}

// neither asks that l is refused, and that what would be its bytes isn't read.
func neither(t *testing.T, l api.Letter) {
	t.Helper()
	refused(t, l)
	unread(t, bytesOf(l))
}

// asPlain holds Right and Write of l against the plain ones; it answers whether l was right.
func asPlain(t *testing.T, l api.Letter) bool {
	t.Helper()
	if right(l) {
		wrote(t, l, bytesOf(l))
		return true
	}
	refused(t, l)
	return false
}

// readAsPlain holds Read of s against the plain one, and against Write; it answers whether s was taken.
func readAsPlain(t *testing.T, s string) bool {
	t.Helper()
	got, err := letter.Read(s)
	if want, no := letterOf(s); !same(got, want) || err != no {
		t.Fatalf("Read(%x): %v %d, want %v %d", s, got, err, want, no)
	}
	if err != api.OK {
		return false
	}
	if back, no := letter.Write(got); back != s || no != api.OK {
		t.Fatalf("Write(%v), read from %x: %x %d", got, s, back, no)
	}
	return true
}

// ask answers a letter with a request.
func ask(a api.Request) api.Letter { return api.Letter{Client: 1, Shard: 2, Seq: 3, Ask: a} }

// said answers a letter with a reply.
func said(a api.Reply) api.Letter {
	return api.Letter{Client: 1, Shard: 2, Seq: 3, Answer: true, Reply: a}
}

// fullAsk answers a request all of whose fields are other than zero, and no two the same.
func fullAsk() api.Request {
	return api.Request{
		Kind: 4, By: api.Txn{Client: 5, N: 6}, Start: api.Ts{P: 7, L: 8}, At: api.Ts{P: 9, L: 10}, Key: "k", To: "t", Limit: 11, Parts: 12,
		Writes: writes{{Key: "b", Val: "x"}, {Key: "a", Dead: true}}, Skips: txns{{Client: 13, N: 14}, {Client: 15, N: 16}},
	}
}

// fullReply answers a reply of the same sort.
func fullReply() api.Reply {
	return api.Reply{
		Kind: 4, Err: 5, Found: true, Val: "v", Pairs: pairs{{Key: "b", Val: "x"}, {Key: "a", Val: "y"}},
		Who: api.Txn{Client: 6, N: 7}, Start: api.Ts{P: 8, L: 9}, At: api.Ts{P: 10, L: 11}, Primary: "p", Now: api.Ts{P: 12, L: 13},
	}
}

// greatAsk answers the request whose bytes are the most.
func greatAsk() api.Request {
	return api.Request{
		Kind: lastAsk, By: last, Start: greatest, At: greatest, Key: key, To: key, Limit: maxScan, Parts: maxParts,
		Writes: manyWrites(maxWrites), Skips: manySkips(maxSkips),
	}
}

// greatReply answers the reply whose bytes are the most.
func greatReply() api.Reply {
	return api.Reply{
		Kind: lastSaid, Err: maxErr, Found: true, Val: val, Pairs: manyPairs(maxScan),
		Who: last, Start: greatest, At: greatest, Primary: key, Now: greatest,
	}
}

// great answers the letter with a, and with all else at its greatest.
func great(l api.Letter) api.Letter {
	l.Client, l.Shard, l.Seq = maxClients-1, maxShards-1, math.MaxUint32
	return l
}

// few answers letters of both sorts: with nothing but a Kind, with all fields, with the greatest.
func few() []api.Letter {
	return []api.Letter{
		{Ask: api.Request{Kind: 1}}, ask(fullAsk()), great(ask(greatAsk())),
		{Answer: true}, said(fullReply()), great(said(greatReply())),
	}
}

// manyWrites answers n writes of the greatest length, the last key first.
func manyWrites(n int) writes {
	var l writes
	for i := range n {
		l = append(l, api.Write{Key: key[1:] + string([]byte{byte(255 - i)}), Val: val, Dead: i%2 == 0})
	}
	return l
}

// manySkips answers n transactions, all of them with the greatest numbers.
func manySkips(n int) txns {
	return slices.Repeat(txns{last}, n)
}

// manyPairs answers n pairs of the greatest length.
func manyPairs(n int) pairs {
	var l pairs
	for _, w := range manyWrites(n) {
		l = append(l, api.Pair{Key: w.Key, Val: w.Val})
	}
	return l
}

// wrongStamps answers stamps that aren't right.
func wrongStamps() []api.Ts {
	return []api.Ts{{P: maxPhys + 1}, {P: 5, L: maxLogic + 1}, {P: maxPhys, L: maxLogic + 1}, {P: maxPhys + 1, L: maxLogic + 1}, {P: math.MaxUint64}, {L: maxLogic + 1}, {L: math.MaxUint32}, {P: math.MaxUint64, L: math.MaxUint32}}
}

// rightStamps answers stamps that are right, the first of them none.
func rightStamps() []api.Ts {
	return []api.Ts{none, {L: 1}, at(1), {P: 1, L: 1}, at(247), at(248), {P: 255, L: 247}, {P: 256, L: 248}, {P: 5, L: maxLogic}, {P: 65535, L: 255}, {P: 65536, L: 256}, at(maxPhys - 1), at(maxPhys), greatest}
}

// By chance: seldom answers whether something that happens seldom does.
func seldom(r *rand.Rand) bool { return r.Intn(120) == 0 }

func someStamp(r *rand.Rand) api.Ts {
	l := rightStamps()
	if seldom(r) {
		l = wrongStamps()
	}
	return l[r.Intn(len(l))]
}

// someText answers a text of at most most bytes, seldom one more.
func someText(r *rand.Rand, most int) string {
	n := r.Intn(4)
	if seldom(r) {
		n = most + 1
	} else if r.Intn(10) == 0 {
		n = most
	}
	l := make([]byte, n)
	for i := range l {
		l[i] = byte(r.Intn(256))
	}
	return string(l)
}

// someCount answers how many a list has, seldom one more than most.
func someCount(r *rand.Rand, most int) int {
	switch {
	case seldom(r):
		return most + 1
	case r.Intn(12) == 0:
		return most
	}
	return r.Intn(4)
}

// someNumber answers a number of any count of bits up to 32.
func someNumber(r *rand.Rand) uint32 { return uint32(r.Uint64() >> (32 + r.Intn(33))) }

func someName(r *rand.Rand) api.Txn { return api.Txn{Client: someNumber(r), N: someNumber(r)} }

// someInt answers a number from least to most, seldom one beside them.
func someInt(r *rand.Rand, least, most int) int {
	if seldom(r) {
		l := []int{least - 1, most + 1, math.MinInt, math.MaxInt, least + 1<<8, least + 1<<16, least + 1<<32}
		return l[r.Intn(len(l))]
	}
	return least + r.Intn(most-least+1)
}

func someAsk(r *rand.Rand) api.Request {
	a := api.Request{
		Kind: someInt(r, firstAsk, lastAsk), By: someName(r), Start: someStamp(r), At: someStamp(r),
		Key: someText(r, maxKey), To: someText(r, maxKey), Limit: someInt(r, 0, maxScan), Parts: uint8(r.Intn(256)),
	}
	for range someCount(r, maxWrites) {
		a.Writes = append(a.Writes, api.Write{Key: someText(r, maxKey), Val: someText(r, maxVal), Dead: r.Intn(2) == 0})
	}
	for range someCount(r, maxSkips) {
		a.Skips = append(a.Skips, someName(r))
	}
	return a
}

func someReply(r *rand.Rand) api.Reply {
	a := api.Reply{
		Kind: someInt(r, 0, lastSaid), Err: api.Errno(someInt(r, 0, maxErr)), Found: r.Intn(2) == 0, Val: someText(r, maxVal),
		Who: someName(r), Start: someStamp(r), At: someStamp(r), Primary: someText(r, maxKey), Now: someStamp(r),
	}
	for range someCount(r, maxScan) {
		a.Pairs = append(a.Pairs, api.Pair{Key: someText(r, maxKey), Val: someText(r, maxVal)})
	}
	return a
}

// chance answers a letter by chance, mostly a right one.
func chance(r *rand.Rand) api.Letter {
	l := api.Letter{Client: uint32(r.Intn(maxClients)), Shard: uint32(r.Intn(maxShards)), Seq: someNumber(r), Answer: r.Intn(2) == 0}
	if seldom(r) {
		l.Client += maxClients
	}
	if seldom(r) {
		l.Shard += maxShards
	}
	if l.Answer || seldom(r) {
		l.Reply = someReply(r)
	}
	if !l.Answer || seldom(r) {
		l.Ask = someAsk(r)
	}
	return l
}
