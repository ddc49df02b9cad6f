package script_test

import (
	"encoding/hex"
	"fmt"
	"math/big"
	"regexp"
	"slices"
	"strings"

	"dovecote/api"
	"dovecote/cluster"
	"dovecote/shard"
)

// plain is a second telling of the chapter: the shape of a line is a pattern, made of the chapter's table; numbers are read without bounds, and held against these then; moves are made by hand.
type plain struct {
	c *cluster.Cluster
}

const (
	aNumber = `(0|-?[1-9][0-9]*)`
	aText   = `(-|(?:[!-\[\]-~]|\\[0-9a-f]{2})+)`
)

// shapes are the patterns of the table's lines.
var shapes = func() map[string]*regexp.Regexp {
	all := map[string]*regexp.Regexp{}
	for _, row := range table {
		names := strings.Fields(row)
		pattern := "^ *" + names[0]
		for _, name := range names[1:] {
			switch name {
			case "KEY", "VAL", "TO":
				pattern += " +" + aText
			case "KEEP..":
				pattern += strings.Repeat("(?: +"+aNumber, 4) + strings.Repeat(")?", 4)
			default:
				pattern += " +" + aNumber
			}
		}
		all[row] = regexp.MustCompile(pattern + " *$")
	}
	return all
}()

// moves are those that lines let happen; of a client's ops the op is told beside.
var moves = map[string][2]int{
	"begin": {1, 1}, "get": {1, 2}, "scan": {1, 3}, "put": {1, 4}, "delete": {1, 5}, "commit": {1, 6}, "abort": {1, 7},
	"take": {2}, "lose": {3}, "double": {4}, "clock": {5}, "watch": {6}, "kill": {7}, "rise": {8}, "fuel": {9}, "again": {10}, "give": {11}, "safe": {12}, "renew": {13},
}

// What has no answer, and how a byte is written by two digits.
var (
	unanswered = regexp.MustCompile("^ *(#|$)")
	twoDigits  = regexp.MustCompile(`\\..`)
)

// plainRun answers a text.
func plainRun(text string) string {
	if len(text) > 65536 || len(strings.Split(text, "\n")) > 1025 {
		return "error 3\n"
	}
	p := &plain{}
	var b strings.Builder
	for line := range strings.SplitSeq(text, "\n") {
		if !unanswered.MatchString(line) {
			fmt.Fprintln(&b, p.line(line))
		}
	}
	return b.String()
}

// line answers a line that has an answer.
func (p *plain) line(line string) string {
	for row, shape := range shapes {
		words := shape.FindStringSubmatch(line)
		if words == nil {
			continue
		}
		names := strings.Fields(strings.Replace(row, "KEEP..", "KEEP KEEP KEEP KEEP", 1))
		m := api.Move{Kind: moves[names[0]][0], Op: api.Op{Kind: moves[names[0]][1]}}
		var c api.Config
		for i, name := range names[1:] {
			word := words[i+1]
			if name == "KEEP" && word == "" {
				continue
			}
			if !set(&m, &c, names[0], name, word) {
				return "error 50"
			}
		}
		return p.happen(names[0], m, c)
	}
	return "error 50"
}

// set sets what a name tells, and tells whether its number is one within its bounds.
func set(m *api.Move, c *api.Config, first, name, word string) bool {
	switch name {
	case "KEY":
		m.Op.Key = unwritten(word)
		return true
	case "VAL":
		m.Op.Val = unwritten(word)
		return true
	case "TO":
		m.Op.To = unwritten(word)
		return true
	}
	n, ok := new(big.Int).SetString(word, 10)
	if !ok {
		return false
	}
	if name == "PHYS" {
		m.Phys = n.Uint64()
		return n.IsUint64()
	}
	if name == "KEEP" {
		m.Keep = append(m.Keep, int(n.Int64()))
		return n.IsInt64()
	}
	fields := map[string]*int{
		"NODES": &c.Nodes, "SHARDS": &c.Shards, "CLIENTS": &c.Clients, "ROOM": &c.Room,
		"C": &m.Client, "N": &m.Node, "S": &m.Shard, "RAW": &m.Raw, "LIMIT": &m.Op.Limit,
	}
	if first == "fuel" {
		fields["RAW"] = &m.N
	}
	*fields[name] = int(n.Int64())
	return n.IsInt64()
}

// happen answers what a line shows.
func (p *plain) happen(first string, m api.Move, c api.Config) string {
	if first == "cluster" {
		fresh, err := cluster.New(c)
		if err != api.OK {
			return fmt.Sprintf("error %d", int(err))
		}
		p.c = fresh
		return "ok"
	}
	if p.c == nil {
		return "error 1"
	}
	switch first {
	case "show":
		return heldText(p.c.Shard(m.Shard))
	case "letters":
		return fmt.Sprint(p.c.Letters())
	}
	return shownText(p.c.Move(m))
}

// shownText tells what a move has shown.
func shownText(x api.Shown) string {
	r := x.Result
	if x.Err != 0 {
		return fmt.Sprintf("error %d", int(x.Err))
	}
	if r.Kind == 0 {
		return "ok"
	}
	what := []string{"", "fine", "value", "pairs", "committed", "aborted", "failed", "unknown"}[r.Kind]
	told := fmt.Sprintf("%d %s", x.Client, what)
	switch r.Kind {
	case 1, 4:
		told += fmt.Sprintf(" %d.%d", r.At.P, r.At.L)
	case 2:
		if r.Found {
			told += " +" + written(r.Val)
		} else {
			told += " -"
		}
	case 3:
		for _, pair := range r.Pairs {
			told += fmt.Sprintf(" %s=%s", written(pair.Key), written(pair.Val))
		}
	default:
		told += fmt.Sprintf(" %d", int(r.Err))
	}
	return told
}

// heldText tells what a shard has.
func heldText(s *shard.Shard) string {
	if s == nil {
		return "none"
	}
	var l []string
	for _, item := range s.Items() {
		for _, v := range item.Chain {
			end := "=" + written(v.Val)
			if v.Dead {
				end = "x"
			}
			l = append(l, fmt.Sprintf("%s:%d.%d%s", written(item.Key), v.At.P, v.At.L, end))
		}
	}
	for _, i := range s.Intents() {
		l = append(l, fmt.Sprintf("%s!%d.%d", written(i.Write.Key), i.By.Client, i.By.N))
	}
	for _, v := range s.Verdicts() {
		l = append(l, fmt.Sprintf("%d.%d?%d.%d", v.By.Client, v.By.N, v.At.P, v.At.L))
	}
	return strings.Join(slices.Concat(l, slices.Repeat([]string{"."}, max(0, 1-len(l)))), " ")
}

// written answers the BYTES of a text.
func written(text string) string {
	switch text {
	case "":
		return "-"
	case "-":
		return `\2d`
	}
	var b strings.Builder
	for _, c := range []byte(text) {
		if strings.IndexByte("\\", c) == 0 || c <= 0x20 || c >= 0x7f {
			fmt.Fprintf(&b, "\\%02x", c)
		} else {
			fmt.Fprintf(&b, "%c", c)
		}
	}
	return b.String()
}

// unwritten answers the text of BYTES that are some.
func unwritten(word string) string {
	if word == "-" {
		return ""
	}
	return twoDigits.ReplaceAllStringFunc(word, func(s string) string {
		b, err := hex.DecodeString(s[1:])
		if err != nil {
			panic(s)
		}
		return string(b)
	})
}
