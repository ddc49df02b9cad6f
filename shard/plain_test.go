package shard_test

import (
	"cmp"
	"encoding/binary"
	"fmt"
	"hash/crc32"
	"math"
	"reflect"
	"slices"
	"strings"
	"testing"

	"dovecote/api"
	"dovecote/drum"
	"dovecote/shard"
)

const (
	maxPhys   = uint64(281474976710656)
	maxLogic  = uint32(4095)
	maxKey    = 32
	maxVal    = 256
	maxWrites = 16
	maxSkips  = 16
	maxScan   = 32
	maxChain  = 1000
	maxSkew   = uint64(1000)
	window    = uint64(64)
	ttl       = uint64(100)
	wide      = 1048576 // as much room as a drum may have
	noLimit   = -1
)

var (
	none     = api.Ts{}
	greatest = api.Ts{P: maxPhys, L: maxLogic}
	all      = []int{math.MaxInt, math.MaxInt, math.MaxInt, math.MaxInt} // a fall that keeps what is pending
)

// num answers a right stamp as one number, which keeps the order.
func num(t api.Ts) uint64 { return t.P*4096 + uint64(t.L) }

// stampOf answers the stamp of such a number.
func stampOf(n uint64) api.Ts { return api.Ts{P: n / 4096, L: uint32(n % 4096)} }

// next answers the stamp above t, which isn't the greatest.
func next(t api.Ts) api.Ts { return stampOf(num(t) + 1) }

// prev answers the stamp below t, which isn't none.
func prev(t api.Ts) api.Ts { return stampOf(num(t) - 1) }

// right tells whether t is within the limits of stamps.
func right(t api.Ts) bool { return t.P <= maxPhys && t.L <= maxLogic }

// higher answers the greater one.
func higher(t, u api.Ts) api.Ts { return stampOf(max(num(t), num(u))) }

// form answers the bytes of a number, written from the chapter of pack.
func form(n uint64) string {
	if n < 248 {
		return string([]byte{byte(n)})
	}
	b := binary.BigEndian.AppendUint64(nil, n)
	for b[0] == 0 {
		b = b[1:]
	}
	return string([]byte{byte(247 + len(b))}) + string(b)
}

// formText, formFlag, formTxn, formStamp and formWrite answer the bytes of their things, written from the chapters of pack and entry.
func formText(s string) string { return form(uint64(len(s))) + s }

func formFlag(b bool) string {
	if b {
		return "\x01"
	}
	return "\x00"
}

func formTxn(x api.Txn) string { return form(uint64(x.Client)) + form(uint64(x.N)) }

func formStamp(t api.Ts) string { return form(t.P) + form(uint64(t.L)) }

func formWrite(w api.Write) string { return formText(w.Key) + formFlag(w.Dead) + formText(w.Val) }

// bytesOf answers the bytes of an entry, written from the chapter of entry.
func bytesOf(e api.Entry) string {
	s := form(uint64(e.Kind))
	switch e.Kind {
	case api.EntryBound, api.EntrySafe:
		return s + formStamp(e.At)
	case api.EntryLay:
		s += formTxn(e.By) + formStamp(e.Start) + formStamp(e.Min) + formText(e.Primary) + form(uint64(len(e.Writes)))
		for _, w := range e.Writes {
			s += formWrite(w)
		}
		return s
	case api.EntryCommit:
		return s + formTxn(e.By) + formStamp(e.Start) + formStamp(e.At) + form(uint64(e.Parts))
	case api.EntryApply:
		return s + formTxn(e.By) + formStamp(e.At)
	case api.EntryUndo:
		return s + formTxn(e.By) + formStamp(e.Start)
	case api.EntryDone:
		return s + formTxn(e.By)
	case api.EntryHave:
		return s + formTxn(e.By) + formStamp(e.At) + formWrite(e.Writes[0])
	}
	return s + formTxn(e.By) + formStamp(e.Start) + formStamp(e.At) + form(uint64(e.Parts)) + formFlag(e.Done)
}

// framed answers the frame of a payload, written from the chapter of frame.
func framed(payload string) string {
	body := formText(payload)
	sum := crc32.Checksum([]byte(body), crc32.MakeTable(crc32.Castagnoli))
	return "\xd7" + body + string(binary.LittleEndian.AppendUint32(nil, sum))
}

// logOf answers the bytes of a log of this generation, with entries that a renewal laid.
func logOf(gen uint64, copied ...api.Entry) string {
	s := framed("G" + form(gen))
	for _, e := range copied {
		s += framed("C" + bytesOf(e))
	}
	return s + framed("E")
}

// appended answers the bytes of entries that were logged.
func appended(l ...api.Entry) string {
	s := ""
	for _, e := range l {
		s += framed("R" + bytesOf(e))
	}
	return s
}

// had is a version with its key.
type had struct {
	key string
	api.Version
}

// plain is the chapter's words a second time: lists instead of the layers below, stamps as numbers, a drum that is counted alone, and no way from entries back to a shard.
type plain struct {
	versions []had         // by keys, of a key the newest first
	intents  []api.Intent  // by keys
	verdicts []api.Verdict // by transactions
	safe     api.Ts
	clock    api.Ts
	bound    api.Ts

	held  string // the bytes of the log's area that are sure
	gen   uint64
	room  int
	fuel  int
	down  bool
	torn  int    // bytes that were written, and not synced
	then  func() // what comes of them, if all are kept
	steps int    // how many steps the drum has done
}

// newPlain answers a shard on an empty drum.
func newPlain(room int) *plain {
	return &plain{held: logOf(1), gen: 1, room: room, fuel: noLimit}
}

// step tells whether the drum has done one more.
func (p *plain) step() bool {
	if p.down || p.fuel == 0 {
		p.down = true
		return false
	}
	p.fuel = max(p.fuel-1, noLimit)
	p.steps++
	return true
}

// log logs e, and then does what comes of it.
func (p *plain) log(e api.Entry, then func()) api.Errno {
	f := appended(e)
	if p.down {
		return api.ErrDown
	}
	if len(p.held)+len(f) > p.room {
		return api.ErrFull
	}
	return p.write(len(f), func() {
		p.held += f
		then()
	})
}

// write writes so many bytes, and syncs them, and then does what comes of it.
func (p *plain) write(n int, then func()) api.Errno {
	if !p.step() {
		return api.ErrDown
	}
	if !p.step() {
		p.torn, p.then = n, then
		return api.ErrDown
	}
	then()
	return api.OK
}

// fall lets the drum keep so many bytes of what was pending, and the shard be opened.
func (p *plain) fall(keep int) {
	if p.torn > 0 && keep >= p.torn {
		p.then()
	}
	p.torn, p.then, p.fuel, p.down = 0, nil, noLimit, false
	p.clock = p.bound
	least := p.bound
	if least != greatest {
		least = next(least)
	}
	for n, i := range p.intents {
		if p.isPrimaryHere(i.By) {
			p.intents[n].Min = higher(i.Min, least)
		}
	}
}

// of answers the intents of a transaction.
func (p *plain) of(by api.Txn) []api.Intent {
	var l []api.Intent
	for _, i := range p.intents {
		if i.By == by {
			l = append(l, i)
		}
	}
	return l
}

// on answers the intent on a key, as a list of one or none.
func (p *plain) on(key string) []api.Intent {
	var l []api.Intent
	for _, i := range p.intents {
		if i.Write.Key == key {
			l = append(l, i)
		}
	}
	return l
}

func (p *plain) isPrimaryHere(by api.Txn) bool {
	return slices.ContainsFunc(p.of(by), func(i api.Intent) bool { return i.Write.Key == i.Primary })
}

// chain answers the versions of a key, the newest first.
func (p *plain) chain(key string) []api.Version {
	var l []api.Version
	for _, v := range p.versions {
		if v.key == key {
			l = append(l, v.Version)
		}
	}
	return l
}

// known answers what is known of a transaction, as a list of one reply or none.
func (p *plain) known(by api.Txn) []api.Reply {
	for _, v := range p.verdicts {
		if v.By == by && v.At == none {
			return []api.Reply{{Kind: api.SaidUndone}}
		}
		if v.By == by {
			return []api.Reply{{Kind: api.SaidCommitted, At: v.At}}
		}
	}
	for _, v := range p.versions {
		if v.By == by {
			return []api.Reply{{Kind: api.SaidCommitted, At: v.At}}
		}
	}
	return nil
}

// drop takes a transaction's intents away.
func (p *plain) drop(by api.Txn) {
	p.intents = slices.DeleteFunc(p.intents, func(i api.Intent) bool { return i.By == by })
}

// fix lets a transaction's intents be versions.
func (p *plain) fix(by api.Txn, at api.Ts) {
	for _, i := range p.of(by) {
		p.versions = append(p.versions, had{i.Write.Key, api.Version{At: at, By: by, Val: i.Write.Val, Dead: i.Write.Dead}})
	}
	slices.SortFunc(p.versions, func(v, w had) int {
		return cmp.Or(cmp.Compare(v.key, w.key), cmp.Compare(num(w.At), num(v.At)))
	})
	p.drop(by)
}

// judge sets a verdict.
func (p *plain) judge(v api.Verdict) {
	p.verdicts = append(p.verdicts, v)
	slices.SortFunc(p.verdicts, func(v, w api.Verdict) int {
		return cmp.Or(cmp.Compare(v.By.Client, w.By.Client), cmp.Compare(v.By.N, w.By.N))
	})
}

// prune does what a new safe time does.
func (p *plain) prune(at api.Ts) {
	p.safe = at
	var kept []had
	for n, v := range p.versions {
		isAbove := num(v.At) > num(at)
		isFirst := !isAbove && (n == 0 || p.versions[n-1].key != v.key || num(p.versions[n-1].At) > num(at))
		if isAbove || isFirst && !v.Dead {
			kept = append(kept, v)
		}
	}
	p.versions = kept
	p.verdicts = slices.DeleteFunc(p.verdicts, func(v api.Verdict) bool {
		return num(v.Start) < num(at) && (v.At == none || v.Done) && len(p.of(v.By)) == 0
	})
}

func (p *plain) advance(c api.Ts) api.Errno {
	if num(p.bound) < num(c) {
		b := api.Ts{P: min(c.P+window, maxPhys), L: maxLogic}
		if err := p.log(api.Entry{Kind: api.EntryBound, At: b}, func() { p.bound = b }); err != api.OK {
			return err
		}
	}
	p.clock = c
	return api.OK
}

func (p *plain) hear(phys uint64, t api.Ts) api.Errno {
	if t.P > maxSkew && t.P-maxSkew > phys {
		return api.ErrSkew
	}
	return p.advance(higher(p.clock, t))
}

func (p *plain) undo(by api.Txn, start api.Ts) api.Reply {
	if len(p.of(by)) > 0 || num(start) >= num(p.safe) {
		err := p.log(api.Entry{Kind: api.EntryUndo, By: by, Start: start}, func() {
			p.drop(by)
			p.judge(api.Verdict{By: by, Start: start})
		})
		if err != api.OK {
			return api.Reply{Err: err}
		}
	}
	return api.Reply{Kind: api.SaidUndone}
}

// isWrong tells whether a request is answered with ErrArg whatever the shard has.
func isWrong(q api.Request) bool {
	if q.Kind < 1 || q.Kind > 9 || !right(q.Start) || !right(q.At) || len(q.Skips) > maxSkips {
		return true
	}
	noKey := q.Key == "" || len(q.Key) > maxKey
	seen := map[string]int{}
	bad := len(q.Writes) == 0 || len(q.Writes) > maxWrites
	for _, w := range q.Writes {
		seen[w.Key]++
		if w.Key == "" || len(w.Key) > maxKey || len(w.Val) > maxVal || w.Dead && w.Val != "" || seen[w.Key] > 1 {
			bad = true
		}
	}
	isGet, isLay := q.Kind == api.AskGet, q.Kind == api.AskLay
	needsAt := q.Kind == api.AskDecide || q.Kind == api.AskApply
	return (isGet || isLay) && noKey || isLay && bad || needsAt && q.At == none
}

// Handle answers a request as the chapter says.
func (p *plain) Handle(phys uint64, q api.Request) api.Reply {
	r := p.answer(phys, q)
	r.Now = p.clock
	return r
}

func (p *plain) answer(phys uint64, q api.Request) api.Reply {
	if isWrong(q) {
		return api.Reply{Err: api.ErrArg}
	}
	if p.down {
		return api.Reply{Err: api.ErrDown}
	}
	switch q.Kind {
	case api.AskGet, api.AskScan:
		return p.read(phys, q)
	case api.AskLay:
		return p.lay(phys, q)
	case api.AskSafe:
		return p.setSafe(q)
	case api.AskDone:
		return p.done(q)
	case api.AskApply:
		return p.apply(phys, q)
	}
	if l := p.known(q.By); len(l) > 0 {
		return l[0]
	}
	switch q.Kind {
	case api.AskDecide:
		return p.decide(phys, q)
	case api.AskUndo:
		return p.undo(q.By, q.Start)
	}
	return p.push(phys, q)
}

func lockedBy(i api.Intent) api.Reply {
	return api.Reply{Kind: api.SaidLocked, Who: i.By, Start: i.Start, Primary: i.Primary}
}

// read answers Get and Scan.
func (p *plain) read(phys uint64, q api.Request) api.Reply {
	if num(q.Start) < num(p.safe) {
		return api.Reply{Err: api.ErrOld}
	}
	if err := p.hear(phys, q.Start); err != api.OK {
		return api.Reply{Err: err}
	}
	isMeant := func(key string) bool {
		if q.Kind == api.AskGet {
			return key == q.Key
		}
		return key >= q.Key && (q.To == "" || key < q.To)
	}
	for _, i := range p.intents {
		if isMeant(i.Write.Key) && num(i.Min) <= num(q.Start) && i.By != q.By && !slices.Contains(q.Skips, i.By) {
			return lockedBy(i)
		}
	}
	var pairs []api.Pair
	last := ""
	for _, v := range p.versions {
		if v.key == last || !isMeant(v.key) || num(v.At) > num(q.Start) {
			continue
		}
		last = v.key
		if !v.Dead {
			pairs = append(pairs, api.Pair{Key: v.key, Val: v.Val})
		}
	}
	if q.Kind == api.AskScan {
		return api.Reply{Kind: api.SaidPairs, Pairs: pairs[:min(len(pairs), max(q.Limit, 0), maxScan)]}
	}
	if len(pairs) == 0 {
		return api.Reply{Kind: api.SaidValue}
	}
	return api.Reply{Kind: api.SaidValue, Found: true, Val: pairs[0].Val}
}

func (p *plain) lay(phys uint64, q api.Request) api.Reply {
	if num(q.Start) < num(p.safe) {
		return api.Reply{Err: api.ErrOld}
	}
	if l := p.known(q.By); len(l) > 0 {
		return l[0]
	}
	if l := p.of(q.By); len(l) > 0 {
		return api.Reply{Kind: api.SaidLaid, At: l[0].Min}
	}
	for _, w := range q.Writes {
		if l := p.on(w.Key); len(l) > 0 {
			return lockedBy(l[0])
		}
		c := p.chain(w.Key)
		if len(c) > 0 && num(c[0].At) > num(q.Start) {
			return api.Reply{Kind: api.SaidConflict}
		}
		if len(c) >= maxChain {
			return api.Reply{Err: api.ErrMore}
		}
	}
	if err := p.hear(phys, q.Start); err != api.OK {
		return api.Reply{Err: err}
	}
	least := api.Ts{P: phys}
	if phys > maxPhys || phys <= p.clock.P && p.clock == greatest {
		return api.Reply{Err: api.ErrOver}
	}
	if phys <= p.clock.P {
		least = next(p.clock)
	}
	if err := p.advance(least); err != api.OK {
		return api.Reply{Err: err}
	}
	writes := slices.Clone(q.Writes)
	err := p.log(api.Entry{Kind: api.EntryLay, By: q.By, Start: q.Start, Min: least, Primary: q.Key, Writes: writes}, func() {
		for _, w := range writes {
			p.intents = append(p.intents, api.Intent{By: q.By, Start: q.Start, Min: least, Primary: q.Key, Write: w})
		}
		slices.SortFunc(p.intents, func(i, j api.Intent) int { return cmp.Compare(i.Write.Key, j.Write.Key) })
	})
	if err != api.OK {
		return api.Reply{Err: err}
	}
	return api.Reply{Kind: api.SaidLaid, At: least}
}

func (p *plain) decide(phys uint64, q api.Request) api.Reply {
	l := p.of(q.By)
	if len(l) == 0 {
		return api.Reply{Kind: api.SaidUndone}
	}
	if !p.isPrimaryHere(q.By) {
		return api.Reply{Err: api.ErrArg}
	}
	if num(l[0].Min) > num(q.At) {
		return api.Reply{Kind: api.SaidLow, At: l[0].Min}
	}
	if err := p.hear(phys, q.At); err != api.OK {
		return api.Reply{Err: err}
	}
	err := p.log(api.Entry{Kind: api.EntryCommit, By: q.By, Start: l[0].Start, At: q.At, Parts: q.Parts}, func() {
		p.fix(q.By, q.At)
		p.judge(api.Verdict{By: q.By, Start: l[0].Start, At: q.At, Parts: q.Parts})
	})
	if err != api.OK {
		return api.Reply{Err: err}
	}
	return api.Reply{Kind: api.SaidCommitted, At: q.At}
}

func (p *plain) apply(phys uint64, q api.Request) api.Reply {
	l := p.of(q.By)
	isUndone := slices.ContainsFunc(p.verdicts, func(v api.Verdict) bool { return v.By == q.By && v.At == none })
	if isUndone || len(l) == 0 {
		return api.Reply{Kind: api.SaidFine}
	}
	if p.isPrimaryHere(q.By) || num(l[0].Min) > num(q.At) {
		return api.Reply{Err: api.ErrArg}
	}
	if err := p.hear(phys, q.At); err != api.OK {
		return api.Reply{Err: err}
	}
	if err := p.log(api.Entry{Kind: api.EntryApply, By: q.By, At: q.At}, func() { p.fix(q.By, q.At) }); err != api.OK {
		return api.Reply{Err: err}
	}
	return api.Reply{Kind: api.SaidFine}
}

func (p *plain) push(phys uint64, q api.Request) api.Reply {
	l := p.of(q.By)
	if len(l) == 0 {
		return p.undo(q.By, q.Start)
	}
	if !p.isPrimaryHere(q.By) {
		return api.Reply{Err: api.ErrArg}
	}
	if phys > l[0].Start.P+ttl {
		return p.undo(q.By, l[0].Start)
	}
	if q.At == none {
		return api.Reply{Kind: api.SaidPushed, At: l[0].Min}
	}
	if q.At == greatest {
		return api.Reply{Err: api.ErrOver}
	}
	if err := p.hear(phys, q.At); err != api.OK {
		return api.Reply{Err: err}
	}
	least := higher(l[0].Min, next(q.At))
	for n, i := range p.intents {
		if i.By == q.By {
			p.intents[n].Min = least
		}
	}
	return api.Reply{Kind: api.SaidPushed, At: least}
}

func (p *plain) setSafe(q api.Request) api.Reply {
	if num(q.At) > num(p.safe) {
		if err := p.log(api.Entry{Kind: api.EntrySafe, At: q.At}, func() { p.prune(q.At) }); err != api.OK {
			return api.Reply{Err: err}
		}
	}
	return api.Reply{Kind: api.SaidFine, At: p.safe}
}

func (p *plain) done(q api.Request) api.Reply {
	n := slices.IndexFunc(p.verdicts, func(v api.Verdict) bool { return v.By == q.By && v.At != none && !v.Done })
	if n >= 0 {
		if err := p.log(api.Entry{Kind: api.EntryDone, By: q.By}, func() { p.verdicts[n].Done = true }); err != api.OK {
			return api.Reply{Err: err}
		}
	}
	return api.Reply{Kind: api.SaidFine}
}

// anew answers the entries of a renewal; the chapter leaves open in which order transactions come: here by the first of their keys.
func (p *plain) anew() []api.Entry {
	l := []api.Entry{{Kind: api.EntryBound, At: p.bound}}
	if p.safe != none {
		l = append(l, api.Entry{Kind: api.EntrySafe, At: p.safe})
	}
	for _, v := range p.versions {
		l = append(l, api.Entry{Kind: api.EntryHave, By: v.By, At: v.At, Writes: []api.Write{{Key: v.key, Val: v.Val, Dead: v.Dead}}})
	}
	for _, v := range p.verdicts {
		l = append(l, api.Entry{Kind: api.EntryBook, By: v.By, Start: v.Start, At: v.At, Parts: v.Parts, Done: v.Done})
	}
	for n, i := range p.intents {
		if slices.ContainsFunc(p.intents[:n], func(j api.Intent) bool { return j.By == i.By }) {
			continue
		}
		e := api.Entry{Kind: api.EntryLay, By: i.By, Start: i.Start, Min: i.Min, Primary: i.Primary}
		for _, j := range p.of(i.By) {
			e.Writes = append(e.Writes, j.Write)
		}
		l = append(l, e)
	}
	return l
}

// Renew answers what Renew must, and tells how the drum is left, but for the place of the areas.
func (p *plain) Renew() api.Errno {
	fresh := logOf(p.gen+1, p.anew()...)
	if p.down || !p.step() { // the area is laid
		return api.ErrDown
	}
	if len(p.held)+len(fresh) > p.room {
		p.step() // it is cut again
		return api.ErrFull
	}
	err := p.write(len(fresh), func() {
		p.held = fresh
		p.gen++
	})
	if err != api.OK || !p.step() { // the old one is cut
		return api.ErrDown
	}
	return api.OK
}

// items answers the versions as Items does.
func (p *plain) items() []api.Item {
	var l []api.Item
	for n, v := range p.versions {
		if n == 0 || p.versions[n-1].key != v.key {
			l = append(l, api.Item{Key: v.key, Chain: p.chain(v.key)})
		}
	}
	return l
}

// told answers all that a shard has, as a text.
func (p *plain) told() string {
	return tell(p.items(), p.intents, p.verdicts, p.safe, p.clock, p.bound)
}

func tell(items []api.Item, intents []api.Intent, verdicts []api.Verdict, safe, clock, bound api.Ts) string {
	var b strings.Builder
	for _, i := range items {
		fmt.Fprintf(&b, "%q%+v\n", i.Key, i.Chain)
	}
	for _, i := range intents {
		fmt.Fprintf(&b, "%+v %q\n", i, i.Write.Key)
	}
	for _, v := range verdicts {
		fmt.Fprintf(&b, "%+v\n", v)
	}
	fmt.Fprintf(&b, "safe %v clock %v bound %v", safe, clock, bound)
	return b.String()
}

// toldBy answers all that s has, as a text.
func toldBy(s *shard.Shard) string {
	return tell(s.Items(), s.Intents(), s.Verdicts(), s.Safe(), s.Clock(), s.Bound())
}

// isLike tells whether s has what p has.
func (p *plain) isLike(s *shard.Shard) bool {
	return slices.EqualFunc(s.Items(), p.items(), func(i, j api.Item) bool { return i.Key == j.Key && slices.Equal(i.Chain, j.Chain) }) &&
		slices.Equal(s.Intents(), p.intents) && slices.Equal(s.Verdicts(), p.verdicts) &&
		s.Safe() == p.safe && s.Clock() == p.clock && s.Bound() == p.bound
}

// said answers when, for alike.
func said(when string) func() string { return func() string { return when } }

// pair is a shard on a drum, and the plain one beside it.
type pair struct {
	t *testing.T
	d *drum.Drum
	s *shard.Shard
	p *plain
}

// begin answers an empty pair.
func begin(t *testing.T, room int) *pair {
	t.Helper()
	d, err := drum.New(room)
	if err != api.OK {
		t.Fatalf("New: %d", err)
	}
	return &pair{t, d, opened(t, d), newPlain(room)}
}

// opened answers the shard on d, which must be one.
func opened(t *testing.T, d *drum.Drum) *shard.Shard {
	t.Helper()
	s, err := shard.Open(d)
	if s == nil || err != api.OK {
		t.Fatalf("Open: %v, %d", s, err)
	}
	return s
}

// same tells whether two replies are the same one.
func same(r, w api.Reply) bool {
	isAlike := slices.Equal(r.Pairs, w.Pairs)
	r.Pairs, w.Pairs = nil, nil
	return isAlike && reflect.DeepEqual(r, w)
}

// ask asks both, and holds what they answer and have against each other.
func (x *pair) ask(phys uint64, q api.Request) api.Reply {
	x.t.Helper()
	got, want := x.s.Handle(phys, q), x.p.Handle(phys, q)
	if !same(got, want) {
		x.t.Fatalf("at %d %+v:\n%+v instead of\n%+v", phys, q, got, want)
	}
	x.alike(func() string { return fmt.Sprintf("behind %+v at %d", q, phys) })
	return got
}

// alike holds what both have, and the drum's bytes, against each other.
func (x *pair) alike(when func() string) {
	x.t.Helper()
	if !x.p.isLike(x.s) {
		x.t.Fatalf("%s:\n%s\ninstead of\n%s", when(), toldBy(x.s), x.p.told())
	}
	if x.d.Down() != x.p.down {
		x.t.Fatalf("%s: the drum is down: %t", when(), x.d.Down())
	}
	if x.p.down {
		return
	}
	var held []string
	for area := range 4 {
		if s, err := x.d.Read(area); err == api.OK {
			held = append(held, s)
		}
	}
	if len(held) != 1 || held[0] != x.p.held {
		x.t.Fatalf("%s: the drum holds\n%q instead of\n%q", when(), held, x.p.held)
	}
}

// fuel lets the drum do so many steps more.
func (x *pair) fuel(n int) {
	x.d.Fuel(n)
	x.p.fuel = max(n, noLimit)
}

// fall lets the drum fall, and both be opened anew.
func (x *pair) fall(keep int) {
	x.t.Helper()
	x.d.Fall([]int{keep, keep, keep, keep})
	x.p.fall(keep)
	x.s = opened(x.t, x.d)
	x.alike(func() string { return fmt.Sprintf("behind a fall that keeps %d", keep) })
}

// renew begins the log anew.
func (x *pair) renew() api.Errno {
	x.t.Helper()
	got, want := x.s.Renew(), x.p.Renew()
	if got != want {
		x.t.Fatalf("Renew: %d instead of %d", got, want)
	}
	x.alike(said("behind Renew"))
	return got
}
