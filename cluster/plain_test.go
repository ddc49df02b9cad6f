package cluster_test

import (
	"fmt"
	"math/rand"
	"slices"
	"strings"
	"testing"

	"dovecote/api"
	"dovecote/cluster"
	"dovecote/drum"
	"dovecote/session"
	"dovecote/shard"
)

// plain is a second telling of the chapter: letters aren't bytes here, a shard whose node is down is still there, and the numbers are worked out on the spot.
type plain struct {
	api.Config
	drums    []*drum.Drum
	shards   []*shard.Shard
	sessions []*session.Session
	line     []api.Letter
	isDown   [api.MaxNodes]bool
	clocks   [api.MaxNodes]uint64
	watches  [api.MaxClients]uint64
	safe     api.Ts
}

func newPlain(t *testing.T, c api.Config) *plain {
	p := &plain{Config: c}
	for range c.Shards {
		d, err := drum.New(c.Room)
		if err != api.OK {
			t.Fatal(err)
		}
		p.drums = append(p.drums, d)
		s, _ := shard.Open(d)
		p.shards = append(p.shards, s)
	}
	for n := range c.Clients {
		s, err := session.New(n, c.Shards)
		if err != api.OK {
			t.Fatal(err)
		}
		p.sessions = append(p.sessions, s)
	}
	return p
}

// number answers which number a move of that Kind has, and how many of those there are.
func (p *plain) number(m api.Move) (n, of int) {
	switch m.Kind {
	case 1, 6, 10, 11:
		return m.Client, p.Clients
	case 5, 7, 8:
		return m.Node, p.Nodes
	case 9, 13:
		return m.Shard, p.Shards
	case 2, 3, 4, 12:
		return 0, 1
	}
	return 0, 0
}

func (p *plain) move(m api.Move) api.Shown {
	n, of := p.number(m)
	if n < 0 || n >= of {
		return api.Shown{Err: 1}
	}
	var x api.Shown
	got := func(client int, r api.Result) {
		if r.Kind != 0 {
			x.Client, x.Result = client, r
		}
	}
	at := -1 // the place in the line
	if of := len(p.line); of > 0 {
		at = (m.Raw%of + of) % of
	}
	switch m.Kind {
	case 1:
		got(n, p.sessions[n].Do(p.watches[n], m.Op))
	case 2:
		if at >= 0 {
			l := p.line[at]
			p.line = slices.Concat(p.line[:at], p.line[at+1:])
			if l.Answer {
				got(int(l.Client), p.sessions[l.Client].Hear(l))
			} else {
				p.arrive(l)
			}
		}
	case 3:
		if at >= 0 {
			p.line = slices.Concat(p.line[:at], p.line[at+1:])
		}
	case 4:
		if at >= 0 {
			p.send(p.line[at])
		}
	case 5:
		p.clocks[n] = m.Phys
	case 6:
		p.watches[n] = m.Phys
	case 7:
		p.isDown[n] = true
	case 8:
		p.rise(n, m.Keep)
	case 9:
		p.drums[n].Fuel(m.N)
	case 10:
		p.sessions[n].Again()
	case 11:
		got(n, p.sessions[n].Give())
	case 12:
		p.gather()
	case 13:
		if !p.isDown[n%p.Nodes] {
			x.Err = p.shards[n].Renew()
			p.isDown[n%p.Nodes] = p.drums[n].Down()
		}
	}
	for _, s := range p.sessions {
		for _, l := range s.Out() {
			p.send(l)
		}
	}
	return x
}

func (p *plain) send(l api.Letter) {
	if len(p.line) < 200 {
		p.line = append(p.line, l)
	}
}

// shard answers shard n as far as it can be asked.
func (p *plain) shard(n int) *shard.Shard {
	if n < 0 || n >= p.Shards || p.isDown[n%p.Nodes] {
		return nil
	}
	return p.shards[n]
}

func (p *plain) arrive(l api.Letter) {
	s := p.shard(int(l.Shard))
	if s == nil {
		return
	}
	node := int(l.Shard) % p.Nodes
	l.Reply = s.Handle(p.clocks[node], l.Ask)
	l.Ask = api.Request{}
	l.Answer = true
	if p.drums[l.Shard].Down() {
		p.isDown[node] = true
	} else {
		p.send(l)
	}
}

func (p *plain) rise(node int, keep []int) {
	if !p.isDown[node] {
		return
	}
	p.isDown[node] = false
	for n := node; n < p.Shards; n += p.Nodes {
		p.drums[n].Fall(keep)
		p.shards[n], _ = shard.Open(p.drums[n])
	}
}

func (p *plain) gather() {
	var all []uint64
	for _, s := range p.sessions {
		if start, ok := s.Start(); ok {
			all = append(all, num(start))
		}
	}
	for n := range p.Shards {
		if s := p.shard(n); s != nil {
			all = append(all, num(s.Clock()))
		}
	}
	if len(all) > 0 && slices.Min(all) > num(p.safe) {
		least := slices.Min(all)
		p.safe = api.Ts{P: least >> 12, L: uint32(least & 4095)}
	}
	for n := range p.Shards {
		p.send(api.Letter{Shard: uint32(n), Ask: api.Request{Kind: api.AskSafe, At: p.safe}})
	}
}

func (p *plain) quiet() bool {
	return len(p.line) == 0 && !slices.ContainsFunc(p.sessions, func(s *session.Session) bool { return !s.Quiet() })
}

// num answers a stamp as one number, so that stamps can be held against each other.
func num(t api.Ts) uint64 {
	return t.P<<12 | uint64(t.L)
}

// same holds all that c answers but its shards' insides against p.
func (p *plain) same(c *cluster.Cluster) error {
	if c.Letters() != len(p.line) {
		return fmt.Errorf("%d letters, want %d", c.Letters(), len(p.line))
	}
	if c.Safe() != p.safe {
		return fmt.Errorf("safe %v, want %v", c.Safe(), p.safe)
	}
	if c.Quiet() != p.quiet() {
		return fmt.Errorf("quiet %v, want %v", c.Quiet(), p.quiet())
	}
	for n := -1; n <= p.Nodes; n++ {
		if want := n >= 0 && n < p.Nodes && !p.isDown[n]; c.Up(n) != want {
			return fmt.Errorf("node %d: up %v, want %v", n, c.Up(n), want)
		}
	}
	for n := -1; n <= p.Clients; n++ {
		var want api.Ts
		runs := false
		if n >= 0 && n < p.Clients {
			want, runs = p.sessions[n].Start()
		}
		if start, ok := c.Start(n); start != want || ok != runs {
			return fmt.Errorf("client %d: start %v %v, want %v %v", n, start, ok, want, runs)
		}
	}
	for n := -1; n <= p.Shards; n++ {
		if isThere, want := c.Shard(n) != nil, p.shard(n) != nil; isThere != want {
			return fmt.Errorf("shard %d: there %v, want %v", n, isThere, want)
		}
	}
	return nil
}

// sameShards holds the insides of c's shards against p's.
func (p *plain) sameShards(c *cluster.Cluster) error {
	for n := range p.Shards {
		if have, want := inside(c.Shard(n)), inside(p.shard(n)); have != want {
			return fmt.Errorf("shard %d:\n%s\nwant\n%s", n, have, want)
		}
	}
	return nil
}

// inside tells all that a shard has; a list that is empty or nil is told alike.
func inside(s *shard.Shard) string {
	return fmt.Sprintf("%+v %+v %+v safe %v clock %v bound %v", s.Items(), s.Intents(), s.Verdicts(), s.Safe(), s.Clock(), s.Bound())
}

// tell tells a thing; lists that are empty or nil are told alike.
func tell(x any) string {
	return fmt.Sprintf("%+v", x)
}

// tellMoves tells moves, each with what it is about alone.
func tellMoves(l []api.Move) string {
	var b strings.Builder
	for _, m := range l {
		switch m.Kind {
		case api.MoveDo:
			fmt.Fprintf(&b, " do %d %v;", m.Client, m.Op)
		case api.MoveTake, api.MoveLose, api.MoveDouble:
			fmt.Fprintf(&b, " %s %d;", []string{"take", "lose", "double"}[m.Kind-api.MoveTake], m.Raw)
		case api.MoveClock, api.MoveKill, api.MoveRise:
			fmt.Fprintf(&b, " %d node %d %d %v;", m.Kind, m.Node, m.Phys, m.Keep)
		case api.MoveWatch, api.MoveAgain, api.MoveGive:
			fmt.Fprintf(&b, " %d client %d %d;", m.Kind, m.Client, m.Phys)
		default:
			fmt.Fprintf(&b, " %d shard %d %d;", m.Kind, m.Shard, m.N)
		}
	}
	return b.String()
}

// opened answers a cluster of a Config that can be.
func opened(t *testing.T, nodes, shards, clients, room int) *cluster.Cluster {
	t.Helper()
	c, err := cluster.New(api.Config{Nodes: nodes, Shards: shards, Clients: clients, Room: room})
	if err != api.OK || c == nil {
		t.Fatalf("New: %v, %v", c, err)
	}
	return c
}

// chance makes moves by chance.
type chance struct {
	*rand.Rand
	api.Config
	isMild bool    // falls are few, clocks go on, and there is room
	isBusy [4]bool // does a client wait for an op?
}

// heed learns by what a move has shown which clients wait.
func (r *chance) heed(m api.Move, x api.Shown) {
	switch {
	case x.Result.Kind == api.GotError && x.Result.Err == api.ErrBusy:
	case x.Result.Kind != api.GotNothing:
		r.isBusy[x.Client] = false
	case m.Kind == api.MoveDo && x.Err == api.OK:
		r.isBusy[m.Client] = true
	}
}

// pick answers one of l.
func pick[T any](r *rand.Rand, l ...T) T {
	return l[r.Intn(len(l))]
}

var keys = []string{"a", "b", "c", "d", "e", "f", "aa", "zz"}

// op answers one by chance, most of which can be done.
func (r chance) op(isRunning bool) api.Op {
	if r.Intn(16) > 0 {
		return r.soundOp(isRunning)
	}
	k := pick(r.Rand, keys...)
	return pick(r.Rand, begin, commit, abort, get(k), api.Op{}, api.Op{Kind: 8}, get(""), get(long(33)), put(k, long(257)), scan(long(33), "", 1), put(long(32), long(256)))
}

// soundOp answers one by chance that can be done.
func (r chance) soundOp(isRunning bool) api.Op {
	if !isRunning {
		return begin
	}
	k := pick(r.Rand, keys...)
	switch r.Intn(20) {
	case 0, 1, 2, 3:
		return get(k)
	case 4, 5:
		return scan(pick(r.Rand, "", k), pick(r.Rand, "", pick(r.Rand, keys...)), r.Intn(20))
	case 6, 7, 8, 9, 10:
		return put(k, fmt.Sprint(r.Intn(100000)))
	case 11, 12:
		return del(k)
	case 13:
		return abort
	}
	return commit
}

// phys answers a reading: of a clock that goes on slowly, or of one that is out of its mind.
func (r chance) phys(i int) uint64 {
	if !r.isMild && r.Intn(12) == 0 {
		return pick(r.Rand, 0, 1, uint64(r.Intn(5000)), 1<<20, 1<<48-1, 1<<48, 1<<48+1, 1<<63, 1<<64-1)
	}
	return uint64(i + r.Intn(150))
}

// keep answers what a fall keeps.
func (r chance) keep() []int {
	var l []int
	for range r.Intn(6) {
		l = append(l, pick(r.Rand, -1, 0, 1, 5, 9, 30, 1<<40, r.Intn(60)))
	}
	return l
}

// move answers the ith one, by chance.
func (r chance) move(i int, isRunning func(client int) bool) api.Move {
	m := api.Move{Client: r.Intn(r.Clients), Node: r.Intn(r.Nodes), Shard: r.Intn(r.Shards), Raw: r.Intn(400) - 200, N: r.Intn(12) - 2, Phys: r.phys(i), Keep: r.keep()}
	m.Op = r.op(isRunning(m.Client))
	switch n := r.Intn(100); {
	case n < 36 && (!r.isBusy[m.Client] || n == 0):
		m.Kind = api.MoveDo
	case n < 80:
		m.Kind = api.MoveTake
	case n < 98:
		m.Kind = 1 + r.Intn(13)
		isFall := m.Kind == api.MoveKill || m.Kind == api.MoveFuel
		if isFall && r.Intn(3) > 0 || isFall && r.isMild && r.Intn(5) > 0 {
			m.Kind = api.MoveRise
		}
	case n == 98:
		m.Kind = pick(r.Rand, -1, 0, 14, 1<<40)
	default:
		wrong := pick(r.Rand, -1<<63, -1, 4, 8, 1<<31, 1<<63-1)
		m.Kind, m.Client, m.Node, m.Shard = 1+r.Intn(13), wrong, wrong, wrong
	}
	return m
}

// newChance answers one, with a Config by chance.
func newChance(seed int64) *chance {
	r := &chance{Rand: rand.New(rand.NewSource(seed)), isMild: seed%2 == 0}
	r.Config = api.Config{
		Nodes:   1 + r.Intn(api.MaxNodes),
		Shards:  1 + r.Intn(api.MaxShards),
		Clients: 1 + r.Intn(api.MaxClients),
		Room:    api.MaxRoom,
	}
	if !r.isMild {
		r.Room = pick(r.Rand, 0, 14, 15, 30, 100, 400, 2000, 20000)
	}
	return r
}

// The ops that need nothing, and makers of those that do.
var (
	begin  = api.Op{Kind: api.OpBegin}
	commit = api.Op{Kind: api.OpCommit}
	abort  = api.Op{Kind: api.OpAbort}
)

func get(key string) api.Op      { return api.Op{Kind: api.OpGet, Key: key} }
func put(key, val string) api.Op { return api.Op{Kind: api.OpPut, Key: key, Val: val} }
func del(key string) api.Op      { return api.Op{Kind: api.OpDelete, Key: key} }
func scan(key, to string, limit int) api.Op {
	return api.Op{Kind: api.OpScan, Key: key, To: to, Limit: limit}
}

// long answers a text of n bytes.
func long(n int) string {
	return string(slices.Repeat([]byte{'x'}, n))
}
