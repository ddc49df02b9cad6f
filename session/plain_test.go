package session_test

import (
	"fmt"
	"slices"
	"sort"
	"strings"
	"testing"

	"dovecote/api"
	"dovecote/session"
)

const (
	maxPhys    = uint64(281474976710656)
	maxLogic   = uint32(4095)
	maxKey     = 32
	maxVal     = 256
	maxWrites  = 16
	maxSkips   = 16
	maxScan    = 32
	mostPairs  = 16
	maxClients = 4
	maxShards  = 8
)

var (
	none     = api.Ts{}
	greatest = api.Ts{P: maxPhys, L: maxLogic}
	nowhere  = api.Result{}
)

// client is what the session and the plain one answer.
type client interface {
	Do(phys uint64, op api.Op) api.Result
	Hear(l api.Letter) api.Result
	Again()
	Give() api.Result
	Out() []api.Letter
	Start() (api.Ts, bool)
	Quiet() bool
}

// at answers a stamp; without a logical part it is 0.
func at(p uint64, l ...uint32) api.Ts {
	u := api.Ts{P: p}
	for _, n := range l {
		u.L = n
	}
	return u
}

// num answers a right stamp as one number.
func num(u api.Ts) uint64 { return u.P*4096 + uint64(u.L) }

// later answers the greater of two right stamps.
func later(a, b api.Ts) api.Ts {
	if num(a) > num(b) {
		return a
	}
	return b
}

// homeOf answers the shard of a key in whole numbers: four steps of the walk turn it about wholly.
func homeOf(key string, shards int) int {
	x, y := 0, 0
	for _, b := range []byte(key) {
		x, y = int(b)+1-y, x
	}
	return ((3*x+5*y)%shards + shards) % shards
}

// isKey tells whether s can be a key.
func isKey(s string) bool { return s != "" && len(s) < 33 }

// sameResult tells whether two results are the same, of empty lists whether nil or not.
func sameResult(a, b api.Result) bool {
	return a.Kind == b.Kind && a.Err == b.Err && a.By == b.By && a.Start == b.Start && a.At == b.At &&
		a.Found == b.Found && a.Val == b.Val && slices.Equal(a.Pairs, b.Pairs)
}

// sameAsk tells whether two requests are the same, lists likewise.
func sameAsk(a, b api.Request) bool {
	return a.Kind == b.Kind && a.By == b.By && a.Start == b.Start && a.At == b.At && a.Key == b.Key && a.To == b.To &&
		a.Limit == b.Limit && a.Parts == b.Parts && slices.Equal(a.Writes, b.Writes) && slices.Equal(a.Skips, b.Skips)
}

// sameLetter tells whether two requests are the same, with their letters.
func sameLetter(a, b api.Letter) bool {
	return a.Client == b.Client && a.Shard == b.Shard && a.Seq == b.Seq && a.Answer == b.Answer && sameAsk(a.Ask, b.Ask) &&
		fmt.Sprint(a.Reply) == fmt.Sprint(b.Reply)
}

// errand is a request that isn't answered yet, with all that its answer will be held against.
type errand struct {
	letter api.Letter
	role   string
	locked api.Letter // of push and clear: what was locked
	who    api.Txn    // and by whom
	start  api.Ts     // and since when
	err    api.Errno  // of revoke: the error of Decide
	home   int        // of a chore: the primary's home
}

// plain is the chapter's words a second time: what is to be done with an answer is told by what was asked, not kept.
type plain struct {
	client, shards int
	clock          api.Ts
	txns, seqs     uint32
	running        bool
	by             api.Txn
	start          api.Ts
	writes         map[string]api.Write
	op             api.Op // Kind 0: none is under way
	pairs          map[string]string
	open           int // how many shards haven't answered Scan or Lay yet
	least          api.Ts
	isDecided      bool // Decide has been asked
	errands        []errand
	letters        []api.Letter
}

func newPlain(client, shards int) *plain { return &plain{client: client, shards: shards} }

func (p *plain) result(kind int, err api.Errno) api.Result {
	r := api.Result{Kind: kind, Err: err}
	if p.running {
		r.By, r.Start = p.by, p.start
	}
	return r
}

func (p *plain) ask(n int, q api.Request, e errand) {
	p.seqs++
	e.letter = api.Letter{Client: uint32(p.client), Shard: uint32(n), Seq: p.seqs, Ask: q}
	p.errands = append(p.errands, e)
	p.letters = append(p.letters, e.letter)
}

// keys answers the keys of the writes, in order.
func (p *plain) keys() []string {
	var l []string
	for k := range p.writes {
		l = append(l, k)
	}
	sort.Strings(l)
	return l
}

// partsOf answers which shards have a write.
func (p *plain) partsOf() (l [maxShards]bool) {
	for k := range p.writes {
		l[homeOf(k, p.shards)] = true
	}
	return l
}

func (p *plain) primary() string { return p.keys()[0] }

func (p *plain) home() int { return homeOf(p.primary(), p.shards) }

func (p *plain) Do(phys uint64, op api.Op) api.Result {
	err := api.OK
	switch {
	case p.op.Kind != 0, op.Kind == api.OpBegin && p.running:
		err = api.ErrBusy
	case op.Kind != api.OpBegin && !p.running:
		err = api.ErrIdle
	case op.Kind < api.OpBegin || op.Kind > api.OpAbort:
		err = api.ErrArg
	case (op.Kind == api.OpGet || op.Kind == api.OpPut || op.Kind == api.OpDelete) && !isKey(op.Key):
		err = api.ErrArg
	case op.Kind == api.OpPut && len(op.Val) > maxVal:
		err = api.ErrArg
	case op.Kind == api.OpScan && (len(op.Key) > maxKey || len(op.To) > maxKey):
		err = api.ErrArg
	case op.Kind == api.OpBegin && (phys > maxPhys || phys <= p.clock.P && p.clock == greatest):
		err = api.ErrOver
	}
	if err != api.OK {
		return p.result(api.GotError, err)
	}
	switch op.Kind {
	case api.OpBegin:
		return p.begin(phys)
	case api.OpPut:
		return p.write(api.Write{Key: op.Key, Val: op.Val})
	case api.OpDelete:
		return p.write(api.Write{Key: op.Key, Dead: true})
	case api.OpAbort:
		r := p.result(api.GotFine, api.OK)
		p.end()
		return r
	}
	return p.send(op)
}

func (p *plain) begin(phys uint64) api.Result {
	n := num(p.clock) + 1
	if phys > p.clock.P {
		n = phys * 4096
	}
	p.clock = api.Ts{P: n / 4096, L: uint32(n % 4096)}
	p.txns++
	p.running, p.by, p.start = true, api.Txn{Client: uint32(p.client), N: p.txns}, p.clock
	p.writes = map[string]api.Write{}
	r := p.result(api.GotFine, api.OK)
	r.At = p.start
	return r
}

func (p *plain) write(w api.Write) api.Result {
	if _, ok := p.writes[w.Key]; !ok && len(p.writes) == maxWrites {
		return p.result(api.GotError, api.ErrMore)
	}
	p.writes[w.Key] = w
	return p.result(api.GotFine, api.OK)
}

// send does an op that may have something to ask.
func (p *plain) send(op api.Op) api.Result {
	w, isOwn := p.writes[op.Key]
	switch {
	case op.Kind == api.OpGet && isOwn:
		r := p.result(api.GotValue, api.OK)
		r.Found, r.Val = !w.Dead, w.Val
		return r
	case op.Kind == api.OpCommit && len(p.writes) == 0:
		r := p.result(api.GotCommitted, api.OK)
		r.At = p.start
		p.end()
		return r
	}
	p.op = op
	p.pairs, p.open, p.least, p.isDecided = map[string]string{}, 0, none, false
	q := api.Request{By: p.by, Start: p.start}
	switch op.Kind {
	case api.OpGet:
		q.Kind, q.Key = api.AskGet, op.Key
		p.ask(homeOf(op.Key, p.shards), q, errand{role: "get"})
	case api.OpScan:
		q.Kind, q.Key, q.To, q.Limit = api.AskScan, op.Key, op.To, maxScan
		for n := range p.shards {
			p.open++
			p.ask(n, q, errand{role: "scan"})
		}
	case api.OpCommit:
		q.Kind, q.Key = api.AskLay, p.primary()
		for n := range p.shards {
			q.Writes = nil
			for _, k := range p.keys() {
				if homeOf(k, p.shards) == n {
					q.Writes = append(q.Writes, p.writes[k])
				}
			}
			if len(q.Writes) > 0 {
				p.open++
				p.ask(n, q, errand{role: "lay"})
			}
		}
	}
	return nowhere
}

func (p *plain) end() { p.running, p.writes = false, nil }

// close lets no op be under way.
func (p *plain) close() {
	p.op = api.Op{}
	var left []errand
	for _, e := range p.errands {
		if e.role == "chore" {
			left = append(left, e)
		}
	}
	p.errands = left
}

// stop ends an op in its own way, while Decide hasn't been asked.
func (p *plain) stop(err api.Errno) api.Result {
	if p.op.Kind == api.OpCommit {
		return p.giveUp(err)
	}
	p.close()
	return p.result(api.GotError, err)
}

func (p *plain) giveUp(err api.Errno) api.Result {
	p.close()
	r := p.result(api.GotAborted, err)
	for n, isPart := range p.partsOf() {
		if isPart {
			p.ask(n, api.Request{Kind: api.AskUndo, By: p.by, Start: p.start}, errand{role: "chore"})
		}
	}
	p.end()
	return r
}

func (p *plain) committed(by api.Ts) api.Result {
	p.close()
	r := p.result(api.GotCommitted, api.OK)
	r.At = by
	p.clock = later(p.clock, by)
	isAlone := true
	for n, isPart := range p.partsOf() {
		if isPart && n != p.home() {
			isAlone = false
			p.ask(n, api.Request{Kind: api.AskApply, By: p.by, At: by}, errand{role: "chore", home: p.home()})
		}
	}
	if isAlone {
		p.ask(p.home(), api.Request{Kind: api.AskDone, By: p.by}, errand{role: "chore"})
	}
	p.end()
	return r
}

func (p *plain) decide() {
	p.isDecided = true
	q := api.Request{Kind: api.AskDecide, By: p.by, Start: p.start, At: p.least, Key: p.primary()}
	for n, isPart := range p.partsOf() {
		if isPart {
			q.Parts += 1 << n
		}
	}
	p.ask(p.home(), q, errand{role: "decide"})
}

func (p *plain) revoke(err api.Errno) {
	p.ask(p.home(), api.Request{Kind: api.AskUndo, By: p.by, Start: p.start}, errand{role: "revoke", err: err})
}

func (p *plain) Hear(l api.Letter) api.Result {
	if !isRightAnswer(l) || int(l.Client) != p.client {
		return nowhere
	}
	for i, e := range p.errands {
		if e.letter.Seq != l.Seq || e.letter.Shard != l.Shard {
			continue
		}
		p.clock = later(p.clock, l.Reply.Now)
		if e.role == "chore" && l.Reply.Kind == api.SaidError {
			return nowhere
		}
		p.errands = slices.Concat(p.errands[:i], p.errands[i+1:])
		return p.answered(e, l.Reply)
	}
	return nowhere
}

// isRightAnswer is layer 15's words on answers a second time.
func isRightAnswer(l api.Letter) bool {
	r := l.Reply
	if !l.Answer || !sameAsk(l.Ask, api.Request{}) || l.Client > 3 || l.Shard > 7 || r.Kind < 0 || r.Kind > 10 || r.Err < 0 || r.Err > 255 {
		return false
	}
	for _, u := range []api.Ts{r.Start, r.At, r.Now} {
		if u.P > maxPhys || u.L > maxLogic {
			return false
		}
	}
	for _, one := range append([]api.Pair{{Key: r.Primary, Val: r.Val}}, r.Pairs...) {
		if len(one.Key) > maxKey || len(one.Val) > maxVal {
			return false
		}
	}
	return len(r.Pairs) <= maxScan
}

// answered does with an answer what the chapter says, by what was asked.
func (p *plain) answered(e errand, r api.Reply) api.Result {
	err := api.ErrForm
	if r.Kind == api.SaidError && r.Err != api.OK {
		err = r.Err
	}
	is := func(role string, kinds ...int) bool { return e.role == role && slices.Contains(kinds, r.Kind) }
	isMain := e.role == "get" || e.role == "scan" || e.role == "lay"
	switch {
	case e.role == "chore":
		p.choreDone(e, r)
	case isMain && r.Kind == api.SaidLocked:
		return p.push(e, r)
	case is("get", api.SaidValue):
		p.close()
		res := p.result(api.GotValue, api.OK)
		res.Found, res.Val = r.Found, r.Val
		return res
	case is("scan", api.SaidPairs):
		return p.scanned(r.Pairs)
	case is("lay", api.SaidLaid):
		p.least = later(p.least, r.At)
		p.open--
		if p.open == 0 {
			p.decide()
		}
	case is("lay", api.SaidConflict):
		return p.giveUp(api.ErrBusy)
	case is("lay", api.SaidCommitted, api.SaidUndone), is("decide", api.SaidUndone):
		return p.giveUp(api.ErrNone)
	case is("decide", api.SaidCommitted), is("revoke", api.SaidCommitted):
		return p.committed(r.At)
	case is("decide", api.SaidLow):
		p.least = later(p.least, r.At)
		p.decide()
	case e.role == "decide":
		p.revoke(err)
	case is("revoke", api.SaidUndone):
		return p.giveUp(e.err)
	case e.role == "revoke":
		p.revoke(e.err)
	case is("push", api.SaidCommitted):
		p.ask(int(e.locked.Shard), api.Request{Kind: api.AskApply, By: e.who, At: r.At}, errand{role: "clear", locked: e.locked})
	case is("push", api.SaidUndone):
		p.ask(int(e.locked.Shard), api.Request{Kind: api.AskUndo, By: e.who, Start: e.start}, errand{role: "clear", locked: e.locked})
	case is("push", api.SaidPushed):
		return p.pushed(e)
	case e.role == "clear" && r.Kind != api.SaidError:
		p.ask(int(e.locked.Shard), e.locked.Ask, errand{role: roleOf(e.locked)})
	default:
		return p.stop(err)
	}
	return nowhere
}

// roleOf answers which of the three that may be locked was asked by l.
func roleOf(l api.Letter) string { return []string{"", "get", "scan", "lay"}[l.Ask.Kind] }

func (p *plain) push(e errand, r api.Reply) api.Result {
	if r.Primary == "" {
		return p.stop(api.ErrArg)
	}
	q := api.Request{Kind: api.AskPush, By: r.Who, Start: r.Start, Key: r.Primary, At: p.start}
	if e.role == "lay" {
		q.At = none
	}
	p.ask(homeOf(r.Primary, p.shards), q, errand{role: "push", locked: e.letter, who: r.Who, start: r.Start})
	return nowhere
}

func (p *plain) pushed(e errand) api.Result {
	q := e.locked.Ask
	if q.Kind == api.AskLay {
		return p.giveUp(api.ErrBusy)
	}
	if len(q.Skips) == maxSkips {
		return p.stop(api.ErrMore)
	}
	q.Skips = append(append([]api.Txn{}, q.Skips...), e.who)
	p.ask(int(e.locked.Shard), q, errand{role: roleOf(e.locked)})
	return nowhere
}

// choreDone is told of a chore's answer that is no error.
func (p *plain) choreDone(e errand, r api.Reply) {
	if e.letter.Ask.Kind != api.AskApply || r.Kind != api.SaidFine {
		return
	}
	for _, o := range p.errands {
		if o.role == "chore" && o.letter.Ask.Kind == api.AskApply && o.letter.Ask.By == e.letter.Ask.By {
			return
		}
	}
	p.ask(e.home, api.Request{Kind: api.AskDone, By: e.letter.Ask.By}, errand{role: "chore"})
}

// scanned is told of a shard's pairs.
func (p *plain) scanned(l []api.Pair) api.Result {
	for _, one := range l {
		if _, isKnown := p.pairs[one.Key]; !isKnown && isKey(one.Key) {
			p.pairs[one.Key] = one.Val
		}
	}
	p.open--
	if p.open > 0 {
		return nowhere
	}
	for k, w := range p.writes {
		if k < p.op.Key || p.op.To != "" && k >= p.op.To {
			continue
		}
		delete(p.pairs, k)
		if !w.Dead {
			p.pairs[k] = w.Val
		}
	}
	var keys []string
	for k := range p.pairs {
		keys = append(keys, k)
	}
	sort.Strings(keys)
	limit := p.op.Limit
	p.close()
	r := p.result(api.GotPairs, api.OK)
	for _, k := range keys {
		if len(r.Pairs) < limit && len(r.Pairs) < mostPairs {
			r.Pairs = append(r.Pairs, api.Pair{Key: k, Val: p.pairs[k]})
		}
	}
	return r
}

func (p *plain) Again() {
	for _, e := range p.errands {
		p.letters = append(p.letters, e.letter)
	}
}

func (p *plain) Give() api.Result {
	if p.op.Kind == 0 {
		return p.result(api.GotError, api.ErrIdle)
	}
	if !p.isDecided || p.op.Kind != api.OpCommit {
		return p.stop(api.ErrLost)
	}
	p.close()
	r := p.result(api.GotUnknown, api.ErrLost)
	p.end()
	return r
}

func (p *plain) Out() []api.Letter {
	l := p.letters
	p.letters = nil
	return l
}

func (p *plain) Start() (api.Ts, bool) {
	if !p.running {
		return none, false
	}
	return p.start, true
}

func (p *plain) Quiet() bool { return len(p.errands) == 0 }

// opened answers a new session.
func opened(t *testing.T, client, shards int) *session.Session {
	t.Helper()
	s, err := session.New(client, shards)
	if err != api.OK || s == nil {
		t.Fatalf("New(%d, %d): %v", client, shards, err)
	}
	return s
}

// tell answers a result in words that aren't too long.
func tell(r api.Result) string { return short(fmt.Sprintf("%+v", r)) }

// tellAll answers letters, one a line.
func tellAll(l []api.Letter) string {
	var b strings.Builder
	for _, one := range l {
		fmt.Fprintf(&b, "\n  client %d shard %d seq %d answer %t: %s", one.Client, one.Shard, one.Seq, one.Answer, short(fmt.Sprintf("%+v", one.Ask)))
	}
	return b.String()
}

func short(s string) string { return s[:min(len(s), 400)] }
