package cluster

import (
	"dovecote/api"
	"dovecote/letter"
	"dovecote/mark"
	"dovecote/shard"
)

// Move lets m happen, and answers what it shows.
func (c *Cluster) Move(m api.Move) api.Shown {
	if c == nil || !c.has(m) {
		return api.Shown{Err: api.ErrArg}
	}
	shown := c.do(m)
	c.collect()
	return shown
}

// has tells whether m is a move, and there is what it is about.
func (c *Cluster) has(m api.Move) bool {
	switch m.Kind {
	case api.MoveDo, api.MoveWatch, api.MoveAgain, api.MoveGive:
		return isPlace(m.Client, c.clients)
	case api.MoveClock, api.MoveKill, api.MoveRise:
		return isPlace(m.Node, c.nodes)
	case api.MoveFuel, api.MoveRenew:
		return isPlace(m.Shard, c.parts)
	case api.MoveTake, api.MoveLose, api.MoveDouble, api.MoveSafe:
		return true
	}
	return false
}

// do lets m happen, but for the letters that clients send by it.
func (c *Cluster) do(m api.Move) api.Shown {
	switch m.Kind {
	case api.MoveDo:
		w := c.clients[m.Client]
		return told(m.Client, w.session.Do(w.phys, m.Op))
	case api.MoveTake:
		return c.take(m.Raw)
	case api.MoveLose:
		c.post.Lose(m.Raw)
	case api.MoveDouble:
		c.post.Double(m.Raw)
	case api.MoveClock:
		c.nodes[m.Node].phys = m.Phys
	case api.MoveWatch:
		c.clients[m.Client].phys = m.Phys
	case api.MoveKill:
		c.shut(m.Node)
	case api.MoveRise:
		c.rise(m.Node, m.Keep)
	case api.MoveFuel:
		c.parts[m.Shard].drum.Fuel(m.N)
	case api.MoveAgain:
		c.clients[m.Client].session.Again()
	case api.MoveGive:
		return told(m.Client, c.clients[m.Client].session.Give())
	case api.MoveSafe:
		c.raiseSafe()
	case api.MoveRenew:
		return api.Shown{Err: c.renew(m.Shard)}
	}
	return api.Shown{}
}

// take lets the letter that raw picks arrive.
func (c *Cluster) take(raw int) api.Shown {
	text, _ := c.post.Take(raw)
	l, err := letter.Read(text)
	if err != api.OK { // nothing was under way: no letter is without bytes
		return api.Shown{}
	}
	if l.Answer {
		return told(int(l.Client), c.clients[l.Client].session.Hear(l))
	}
	c.handle(l)
	return api.Shown{}
}

// handle lets the shard that l asks answer it, unless that can't, or falls over it.
func (c *Cluster) handle(l api.Letter) {
	p := c.parts[l.Shard]
	if p.shard == nil {
		return
	}
	reply := p.shard.Handle(c.nodes[p.node].phys, l.Ask)
	if p.drum.Down() {
		c.shut(p.node)
		return
	}
	c.send(api.Letter{Client: l.Client, Shard: l.Shard, Seq: l.Seq, Answer: true, Reply: reply})
}

// renew lets shard n's log begin anew, and answers the error of that; of a shard whose node is down it is none.
func (c *Cluster) renew(n int) api.Errno {
	p := c.parts[n]
	if !c.nodes[p.node].isUp {
		return api.OK
	}
	err := p.shard.Renew()
	if p.drum.Down() {
		c.shut(p.node)
	}
	return err
}

// rise lets a node that is down be up again, with what its drums have kept.
func (c *Cluster) rise(node int, keep []int) {
	if c.nodes[node].isUp {
		return
	}
	for _, p := range c.at(node) {
		p.drum.Fall(keep)
	}
	c.open(node)
}

// open lets a node be up, with all of its shards that can be opened.
func (c *Cluster) open(node int) {
	c.nodes[node].isUp = true
	for _, p := range c.at(node) {
		p.shard, _ = shard.Open(p.drum)
	}
}

// shut lets a node be down; of its shards no more is left than their drums have.
func (c *Cluster) shut(node int) {
	c.nodes[node].isUp = false
	for _, p := range c.at(node) {
		p.shard = nil
	}
}

// at answers the parts that are at a node, in the order of their numbers.
func (c *Cluster) at(node int) []*part {
	var l []*part
	for _, p := range c.parts {
		if p.node == node {
			l = append(l, p)
		}
	}
	return l
}

// raiseSafe gathers below which stamp nobody reads any more, and tells it to all shards.
func (c *Cluster) raiseSafe() {
	var starts, clocks []api.Ts
	for _, w := range c.clients {
		if start, ok := w.session.Start(); ok {
			starts = append(starts, start)
		}
	}
	for _, p := range c.parts {
		if p.shard != nil {
			clocks = append(clocks, p.shard.Clock())
		}
	}
	c.safe = mark.Safe(c.safe, starts, clocks)
	for n := range c.parts {
		// Client 0 numbers its own requests from 1 on: no answer to this one is taken for an answer to one of those.
		c.send(api.Letter{Shard: uint32(n), Ask: api.Request{Kind: api.AskSafe, At: c.safe}})
	}
}

// collect sends all letters that clients have to send.
func (c *Cluster) collect() {
	for _, w := range c.clients {
		for _, l := range w.session.Out() {
			c.send(l)
		}
	}
}

// send gives l to the post; it is lost, if there is no room for it.
func (c *Cluster) send(l api.Letter) {
	if text, err := letter.Write(l); err == api.OK {
		c.post.Send(text)
	}
}

// told shows what a client was told; of nothing not even to whom.
func told(client int, r api.Result) api.Shown {
	if r.Kind == api.GotNothing {
		return api.Shown{}
	}
	return api.Shown{Client: client, Result: r}
}
