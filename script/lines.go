package script

import "dovecote/api"

// What a line does, where that is no move: Kinds beside those of moves.
const (
	makes  = -1 - iota // a new cluster
	shows              // what a shard has
	counts             // the letters that are under way
)

// need is what a word of a line must be: a number, where nothing else is told.
type need int

const (
	nodes need = iota
	shards
	clients
	room
	client
	node
	shard
	raw
	steps
	limit
	phys // a reading of a clock
	key  // BYTES, and so are the two below
	val
	to
)

// form is how a line is said: what it does, and which words stand behind the first one.
type form struct {
	does  int // a Kind of a move, or one of those above
	op    int // a Kind of an op, of a line that lets a client do one
	needs []need
	keeps int // how many numbers may stand behind what is needed, which tell what a fall keeps
}

// line is what one says: a move, whose Kind may be one of those beside, or how a new cluster is to be.
type line struct {
	move   api.Move
	config api.Config
}

// formOf answers the form of the lines that begin with word, and whether there are any.
func formOf(word string) (form, bool) {
	switch word {
	case "cluster":
		return form{does: makes, needs: []need{nodes, shards, clients, room}}, true
	case "begin":
		return doing(api.OpBegin, client)
	case "commit":
		return doing(api.OpCommit, client)
	case "abort":
		return doing(api.OpAbort, client)
	case "get":
		return doing(api.OpGet, client, key)
	case "put":
		return doing(api.OpPut, client, key, val)
	case "delete":
		return doing(api.OpDelete, client, key)
	case "scan":
		return doing(api.OpScan, client, key, to, limit)
	case "take":
		return moving(api.MoveTake, raw)
	case "lose":
		return moving(api.MoveLose, raw)
	case "double":
		return moving(api.MoveDouble, raw)
	case "clock":
		return moving(api.MoveClock, node, phys)
	case "watch":
		return moving(api.MoveWatch, client, phys)
	case "kill":
		return moving(api.MoveKill, node)
	case "rise":
		return form{does: api.MoveRise, needs: []need{node}, keeps: 4}, true
	case "fuel":
		return moving(api.MoveFuel, shard, steps)
	case "again":
		return moving(api.MoveAgain, client)
	case "give":
		return moving(api.MoveGive, client)
	case "safe":
		return moving(api.MoveSafe)
	case "renew":
		return moving(api.MoveRenew, shard)
	case "show":
		return moving(shows, shard)
	case "letters":
		return moving(counts)
	}
	return form{}, false
}

// doing answers the form of a line that lets a client do an op.
func doing(op int, needs ...need) (form, bool) {
	return form{does: api.MoveDo, op: op, needs: needs}, true
}

// moving answers the form of a line that does one thing.
func moving(does int, needs ...need) (form, bool) {
	return form{does: does, needs: needs}, true
}

// read answers what a line of these words says, and whether it says anything; there is one word at least.
func read(words []string) (l line, ok bool) {
	f, ok := formOf(words[0])
	words = words[1:]
	if !ok || len(words) < len(f.needs) || len(words) > len(f.needs)+f.keeps {
		goto givenUp
	}
	l.move.Kind = f.does
	l.move.Op.Kind = f.op
	for i, n := range f.needs {
		if !l.take(n, words[i]) {
			goto givenUp
		}
	}
	for _, word := range words[len(f.needs):] {
		if !l.keep(word) {
			goto givenUp
		}
	}
	return l, true
givenUp:
	return line{}, false
}

// take lays down a word where it is needed; false, if it is none of what is.
func (l *line) take(n need, word string) (ok bool) {
	switch n {
	case nodes:
		l.config.Nodes, ok = number(word)
	case shards:
		l.config.Shards, ok = number(word)
	case clients:
		l.config.Clients, ok = number(word)
	case room:
		l.config.Room, ok = number(word)
	case client:
		l.move.Client, ok = number(word)
	case node:
		l.move.Node, ok = number(word)
	case shard:
		l.move.Shard, ok = number(word)
	case raw:
		l.move.Raw, ok = number(word)
	case steps:
		l.move.N, ok = number(word)
	case limit:
		l.move.Op.Limit, ok = number(word)
	case phys:
		l.move.Phys, ok = reading(word)
	case key:
		l.move.Op.Key, ok = textOf(word)
	case val:
		l.move.Op.Val, ok = textOf(word)
	case to:
		l.move.Op.To, ok = textOf(word)
	}
	return ok
}

// keep lays down a number behind those that tell what a fall keeps; false, if word is none.
func (l *line) keep(word string) bool {
	n, ok := number(word)
	l.move.Keep = append(l.move.Keep, n)
	return ok
}
