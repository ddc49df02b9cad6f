package script_test

import (
	"fmt"
	"math/rand"
	"slices"
	"strconv"
	"strings"
	"sync"
	"testing"

	"dovecote/api"
	"dovecote/cluster"
	"dovecote/script"
	"dovecote/shard"
)

// chance makes moves by chance, which it lets happen by hand, and lines that say the same.
type chance struct {
	*rand.Rand
	api.Config
	c      *cluster.Cluster
	isMild bool    // falls are few, clocks go on, and there is room
	isBusy [4]bool // does a client wait for an op?
}

// pick answers one of l.
func pick[T any](r *rand.Rand, l ...T) T {
	return l[r.Intn(len(l))]
}

// Keys have none of the bytes that part what is told of a shard; what they are made of is found again in it.
var keys = []string{"a", "b", "c", "d", "e", "aa", "zz", "-", "--", "\x00", "\xff ", "\\", "a#"}

// newChance answers one, with a Config by chance.
func newChance(t *testing.T, seed int64) *chance {
	r := &chance{Rand: rand.New(rand.NewSource(seed)), isMild: seed%2 == 0}
	r.Config = api.Config{Nodes: 1 + r.Intn(4), Shards: 1 + r.Intn(8), Clients: 1 + r.Intn(4), Room: api.MaxRoom}
	if !r.isMild {
		r.Room = pick(r.Rand, 0, 14, 15, 30, 100, 400, 2000, 20000)
	}
	c, err := cluster.New(r.Config)
	if err != api.OK {
		t.Fatal(r.Config, err)
	}
	r.c = c
	return r
}

// val answers a value by chance: most are short.
func (r *chance) val() string {
	switch r.Intn(12) {
	case 0:
		return ""
	case 1:
		return "-"
	case 2:
		return string([]byte{byte(r.Intn(256)), byte(r.Intn(256))})
	case 3:
		return pick(r.Rand, "a=b c:d!e?f", " ", "\n", "\\20", strings.Repeat("v", 100))
	}
	return strconv.Itoa(r.Intn(1000))
}

// op answers one by chance, most of which can be done.
func (r *chance) op(isRunning bool) api.Op {
	k := pick(r.Rand, keys...)
	if r.Intn(20) == 0 {
		return api.Op{Kind: 1 + r.Intn(7), Key: pick(r.Rand, k, "", strings.Repeat("k", 33)), Val: r.val(), To: r.val(), Limit: r.Int()}
	}
	if !isRunning {
		return api.Op{Kind: api.OpBegin}
	}
	switch r.Intn(18) {
	case 0, 1, 2, 3:
		return api.Op{Kind: api.OpGet, Key: k}
	case 4, 5:
		return api.Op{Kind: api.OpScan, Key: pick(r.Rand, "", k), To: pick(r.Rand, "", pick(r.Rand, keys...)), Limit: r.Intn(20) - 1}
	case 6, 7, 8, 9:
		return api.Op{Kind: api.OpPut, Key: k, Val: r.val()}
	case 10, 11:
		return api.Op{Kind: api.OpDelete, Key: k}
	case 12:
		return api.Op{Kind: api.OpAbort}
	}
	return api.Op{Kind: api.OpCommit}
}

// phys answers a reading: of a clock that goes on slowly, or of one that is out of its mind.
func (r *chance) phys(i int) uint64 {
	if !r.isMild && r.Intn(12) == 0 {
		return pick(r.Rand, 0, 1, uint64(r.Intn(5000)), 1<<48-1, 1<<48, 1<<48+1, 1<<63, 1<<64-1)
	}
	return uint64(i + r.Intn(150))
}

// move answers the ith one, by chance.
func (r *chance) move(i int) api.Move {
	m := api.Move{Client: r.Intn(r.Clients), Node: r.Intn(r.Nodes), Shard: r.Intn(r.Shards), Raw: r.Int() - r.Int(), N: r.Intn(12) - 2, Phys: r.phys(i)}
	for range r.Intn(5) {
		m.Keep = append(m.Keep, pick(r.Rand, -1, 0, 1, 5, 9, 30, 1<<40, r.Intn(60)))
	}
	_, isRunning := r.c.Start(m.Client)
	m.Op = r.op(isRunning)
	switch n := r.Intn(100); {
	case n < 36 && (!r.isBusy[m.Client] || n == 0):
		m.Kind = api.MoveDo
	case n < 80:
		m.Kind = api.MoveTake
	case n < 98:
		m.Kind = 1 + r.Intn(13)
		isFall := m.Kind == api.MoveKill || m.Kind == api.MoveFuel
		if isFall && r.Intn(3) > 0 || isFall && r.isMild && r.Intn(5) > 0 {
			m.Kind = api.MoveRise
		}
	default:
		absent := pick(r.Rand, -1<<63, -1, 4, 8, 1<<31, 1<<63-1)
		m.Kind, m.Client, m.Node, m.Shard = 1+r.Intn(13), absent, absent, absent
	}
	return m
}

// happen lets a move happen by hand.
func (r *chance) happen(m api.Move) api.Shown {
	x := r.c.Move(m)
	switch {
	case x.Result.Kind == api.GotError && x.Result.Err == api.ErrBusy:
	case x.Result.Kind != api.GotNothing:
		r.isBusy[x.Client] = false
	case m.Kind == api.MoveDo && x.Err == api.OK:
		r.isBusy[m.Client] = true
	}
	return x
}

// bytes answers BYTES of a text, in which any byte may stand as two digits.
func (r *chance) bytes(text string) string {
	if r.Intn(2) == 0 || text == "" {
		return written(text)
	}
	var b strings.Builder
	for _, c := range []byte(text) {
		if r.Intn(3) == 0 || text == "-" || c <= ' ' || c > '~' || c == '\\' {
			fmt.Fprintf(&b, "\\%02x", c)
		} else {
			b.WriteByte(c)
		}
	}
	return b.String()
}

// line answers a line that says m.
func (r *chance) line(m api.Move) string {
	l := []any{"take", m.Raw}
	switch m.Kind {
	case api.MoveDo:
		l = []any{[]string{"", "begin", "get", "scan", "put", "delete", "commit", "abort"}[m.Op.Kind], m.Client}
		switch m.Op.Kind {
		case api.OpGet, api.OpDelete:
			l = append(l, r.bytes(m.Op.Key))
		case api.OpPut:
			l = append(l, r.bytes(m.Op.Key), r.bytes(m.Op.Val))
		case api.OpScan:
			l = append(l, r.bytes(m.Op.Key), r.bytes(m.Op.To), m.Op.Limit)
		}
	case api.MoveLose:
		l[0] = "lose"
	case api.MoveDouble:
		l[0] = "double"
	case api.MoveClock:
		l = []any{"clock", m.Node, m.Phys}
	case api.MoveWatch:
		l = []any{"watch", m.Client, m.Phys}
	case api.MoveKill:
		l = []any{"kill", m.Node}
	case api.MoveRise:
		l = []any{"rise", m.Node}
		for _, n := range m.Keep {
			l = append(l, n)
		}
	case api.MoveFuel:
		l = []any{"fuel", m.Shard, m.N}
	case api.MoveAgain:
		l = []any{"again", m.Client}
	case api.MoveGive:
		l = []any{"give", m.Client}
	case api.MoveSafe:
		l = []any{"safe"}
	case api.MoveRenew:
		l = []any{"renew", m.Shard}
	}
	return r.spaced(l)
}

// spaced answers a line of words, with more blanks between than are needed, by chance.
func (r *chance) spaced(words []any) string {
	var b strings.Builder
	for i, w := range words {
		if r.Intn(20) == 0 || i > 0 {
			b.WriteString(strings.Repeat(" ", max(1, r.Intn(20)-16)))
		}
		fmt.Fprint(&b, w)
	}
	return b.String()
}

// made answers the line that makes the cluster.
func (r *chance) made() string {
	return r.spaced([]any{"cluster", r.Nodes, r.Shards, r.Clients, r.Room})
}

// lines answers lines of moves that have been made by hand, with looks at shards and letters between them.
func (r *chance) lines(n int) []string {
	l := []string{r.made()}
	for i := range n - 1 {
		switch r.Intn(15) {
		case 0:
			l = append(l, r.spaced([]any{"show", r.Intn(r.Shards+2) - 1}))
		case 1:
			l = append(l, r.spaced([]any{"letters"}))
		default:
			m := r.move(i)
			l = append(l, r.line(m))
			r.happen(m)
		}
	}
	return l
}

// retold reads what a move has shown out of an answer; the name and the start of the transaction aren't told.
func retold(t *testing.T, answer string) api.Shown {
	t.Helper()
	words := strings.Split(answer, " ")
	var x api.Shown
	if answer == "ok" {
		return x
	}
	if words[0] == "error" && len(words) == 2 {
		x.Err = api.Errno(count(t, words[1]))
		return x
	}
	if len(words) < 2 {
		t.Fatalf("%q shows nothing", answer)
	}
	x.Client = count(t, words[0])
	r := &x.Result
	r.Kind = slices.Index([]string{"", "fine", "value", "pairs", "committed", "aborted", "failed", "unknown"}, words[1])
	if r.Kind != api.GotPairs && len(words) != 3 {
		t.Fatalf("%q is too long, or too short", answer)
	}
	switch r.Kind {
	case api.GotFine, api.GotCommitted:
		r.At = stampOf(t, words[2])
	case api.GotValue:
		if r.Found = words[2] != "-"; r.Found {
			val, hasPlus := strings.CutPrefix(words[2], "+")
			if !hasPlus {
				t.Fatalf("%q tells a value otherwise", answer)
			}
			r.Val = unwritten(val)
		}
	case api.GotPairs:
		for _, w := range words[2:] {
			key, val, _ := strings.Cut(w, "=")
			r.Pairs = append(r.Pairs, api.Pair{Key: unwritten(key), Val: unwritten(val)})
		}
	default:
		r.Err = api.Errno(count(t, words[2]))
	}
	return x
}

// stampOf reads a stamp's text.
func stampOf(t *testing.T, word string) api.Ts {
	t.Helper()
	p, l, _ := strings.Cut(word, ".")
	return api.Ts{P: uint64(count(t, p)), L: uint32(count(t, l))}
}

// nameOf reads a transaction's.
func nameOf(t *testing.T, word string) api.Txn {
	t.Helper()
	client, n, _ := strings.Cut(word, ".")
	return api.Txn{Client: uint32(count(t, client)), N: uint32(count(t, n))}
}

// count reads a number that isn't below 0.
func count(t *testing.T, word string) int {
	t.Helper()
	n, err := strconv.Atoi(word)
	if err != nil || n < 0 || strconv.Itoa(n) != word {
		t.Fatalf("%q is no number", word)
	}
	return n
}

// shownAlike holds an answer against what the same move has shown by hand.
func shownAlike(t *testing.T, answer string, x api.Shown) {
	t.Helper()
	x.Result.By, x.Result.Start = api.Txn{}, api.Ts{}
	if have, want := fmt.Sprintf("%+v", retold(t, answer)), fmt.Sprintf("%+v", x); have != want {
		t.Fatalf("%q tells %s, want %s", answer, have, want)
	}
}

// sight is what a shard has, as it was when it was looked at.
type sight struct {
	isThere  bool
	items    []api.Item
	intents  []api.Intent
	verdicts []api.Verdict
}

func look(s *shard.Shard) sight {
	return sight{s != nil, s.Items(), s.Intents(), s.Verdicts()}
}

// seenAlike holds an answer against what was seen of the shard that was brought about by hand: nothing more and nothing less, all in its order.
func seenAlike(t *testing.T, answer string, s sight) {
	t.Helper()
	words := strings.Split(answer, " ")
	next := func() string {
		t.Helper()
		if len(words) == 0 {
			t.Fatalf("%q tells too little of %+v", answer, s)
		}
		w := words[0]
		words = words[1:]
		return w
	}
	same := func(have, want any) {
		t.Helper()
		if have != want {
			t.Fatalf("%q tells %+v, want %+v, of %+v", answer, have, want, s)
		}
	}
	for _, item := range s.items {
		for _, v := range item.Chain {
			key, rest, _ := strings.Cut(next(), ":")
			at, val, isLive := strings.Cut(rest, "=")
			at, isDead := strings.CutSuffix(at, "x")
			same(isLive, !isDead)
			same(unwritten(key), item.Key)
			have := api.Version{At: stampOf(t, at), By: v.By, Dead: isDead}
			if isLive {
				have.Val = unwritten(val)
			}
			same(have, v)
		}
	}
	for _, i := range s.intents {
		key, by, _ := strings.Cut(next(), "!")
		same(unwritten(key), i.Write.Key)
		same(nameOf(t, by), i.By)
	}
	for _, v := range s.verdicts {
		by, at, _ := strings.Cut(next(), "?")
		same(nameOf(t, by), v.By)
		same(stampOf(t, at), v.At)
	}
	if !s.isThere {
		same(next(), "none")
	} else if len(s.items)+len(s.intents)+len(s.verdicts) == 0 {
		same(next(), ".")
	}
	same(len(words), 0)
}

// TestMovesByHand: P20.1 and P0.5: moves made by hand show what the answers tell, to which each is read back.
func TestMovesByHand(t *testing.T) {
	kinds := map[string]int{}
	for seed := range int64(600) {
		r := newChance(t, seed)
		lines := []string{r.made()}
		var shown []api.Shown
		for i := range 950 {
			m := r.move(i)
			lines = append(lines, r.line(m))
			shown = append(shown, r.happen(m))
		}
		for n := range r.Shards {
			lines = append(lines, "show "+strconv.Itoa(n))
		}
		lines = append(lines, "letters")
		text := strings.Join(lines, "\n")
		if len(text) > api.MaxText {
			t.Fatalf("seed %d: %d bytes", seed, len(text))
		}
		told := answers(t, text)
		if len(told) != len(lines) || told[0] != "ok" {
			t.Fatalf("seed %d: %d answers of %d lines, the first: %q", seed, len(told), len(lines), told[0])
		}
		for i, x := range shown {
			shownAlike(t, told[i+1], x)
			kind := strings.Split(told[i+1], " ")
			if kind[0] != "ok" && kind[0] != "error" {
				kind = kind[1:]
			}
			if kind[0] == "value" || kind[0] == "pairs" {
				kind[0] += fmt.Sprint(min(2, len(x.Result.Pairs)), x.Result.Found)
			}
			kinds[kind[0]]++
		}
		for n := range r.Shards {
			seenAlike(t, told[951+n], look(r.c.Shard(n)))
		}
		if have, want := told[len(told)-1], strconv.Itoa(r.c.Letters()); have != want {
			t.Fatalf("seed %d: %q letters, want %q", seed, have, want)
		}
	}
	t.Log(kinds)
	// What never comes about is not tried by this.
	for _, kind := range []string{"ok", "error", "fine", "value0 false", "value0 true", "pairs0 false", "pairs1 false", "pairs2 false", "committed", "aborted", "failed", "unknown"} {
		if kinds[kind] < 50 {
			t.Errorf("%q came %d times", kind, kinds[kind])
		}
	}
}

// TestLooksByHand: P20.1 and P0.5: between any moves what a shard has, and how many letters are under way, is told as it is then.
func TestLooksByHand(t *testing.T) {
	for seed := range int64(300) {
		r := newChance(t, seed)
		text := r.made() + "\n"
		var shown []api.Shown
		var seen []sight
		var letters []int
		for i := range 300 {
			m := r.move(i)
			n := r.Intn(r.Shards)
			text += r.line(m) + "\nshow " + strconv.Itoa(n) + "\nletters\n"
			shown = append(shown, r.happen(m))
			seen = append(seen, look(r.c.Shard(n)))
			letters = append(letters, r.c.Letters())
		}
		told := answers(t, text)
		if len(told) != 901 {
			t.Fatalf("seed %d: %d answers", seed, len(told))
		}
		for i, x := range shown {
			shownAlike(t, told[3*i+1], x)
			seenAlike(t, told[3*i+2], seen[i])
			if told[3*i+3] != strconv.Itoa(letters[i]) {
				t.Fatalf("seed %d: %q letters, want %d", seed, told[3*i+3], letters[i])
			}
		}
	}
}

// spoil answers lines of which some are others by chance.
func (r *chance) spoil(lines []string) []string {
	all := strings.Join(lines, " ")
	words := strings.Fields(all)
	var l []string
	for _, line := range lines {
		own := strings.Fields(line)
		n := r.Intn(len(own))
		switch r.Intn(100) {
		case 0:
			line = strings.Join(slices.Delete(own, n, n+1), " ")
		case 1:
			line = strings.Join(slices.Insert(own, n+r.Intn(2), pick(r.Rand, words...)), " ")
		case 2:
			own[n] = pick(r.Rand, words...)
			line = strings.Join(own, " ")
		case 3, 4:
			b := []byte(line)
			b[r.Intn(len(b))] = pick(r.Rand, byte(r.Intn(256)), ' ', '-', '0', '\\', '#', '\n', '\t')
			line = string(b)
		case 5, 6:
			place := r.Intn(len(line) + 1)
			line = line[:place] + pick(r.Rand, "-", "0", "1", " ", "\\", "#", "\n", "\t", "+", ".", "x", "\\41", string([]byte{byte(r.Intn(256))})) + line[place:]
		case 7:
			place := r.Intn(len(line))
			line = line[:place] + line[place+1:]
		case 8:
			own[n] = pick(r.Rand, slices.Concat(numbers, wrong, readings, keys)...)
			line = strings.Join(own, " ")
		case 9:
			l = append(l, pick(r.Rand, "", " ", "# "+line, "  #", "#", "frob", "begin", "show 0", "letters", "rise 0 1 2 3 4 5"))
		case 10:
			if r.Intn(5) == 0 {
				l = append(l, r.spaced([]any{"cluster", r.Intn(6), r.Intn(10), r.Intn(6), pick(r.Rand, -1, 0, 100, 10000, api.MaxRoom+1)}))
			}
		}
		l = append(l, line)
	}
	if r.Intn(20) == 0 {
		l = l[1:] // no cluster is at hand
	}
	return l
}

// TestByChance: P20.1: long texts by chance, held against the second telling.
func TestByChance(t *testing.T) {
	count := map[string]int{}
	for seed := range int64(600) {
		r := newChance(t, seed)
		lines := r.spoil(r.lines(700 + r.Intn(320)))
		text := strings.Join(lines, "\n") + pick(r.Rand, "", "\n", " ", "\n\n", "\n#")
		have, want := script.Run(text), plainRun(text)
		if have != want {
			h, w := strings.Split(have, "\n"), strings.Split(want, "\n")
			for i := range min(len(h), len(w)) {
				if h[i] != w[i] {
					t.Fatalf("seed %d, answer %d: %q, want %q, of\n%s", seed, i, h[i], w[i], text)
				}
			}
			t.Fatalf("seed %d: %d answers, want %d", seed, len(h), len(w))
		}
		for _, kind := range []string{"error 50\n", "error 1\n", "error 11\n", "none\n", ".\n", ":", "!", "?", "x\n"} {
			count[kind] += strings.Count(have, kind)
		}
	}
	t.Log(count)
	for kind, n := range count {
		if n < 50 {
			t.Errorf("%q came %d times", kind, n)
		}
	}
}

// TestShortByChance: P20.1: short lines of words and bytes by chance, held against the second telling.
func TestShortByChance(t *testing.T) {
	r := newChance(t, 20)
	firsts := []string{"cluster 1 1 1 1000", "cluster 1 1 1 1000", "letters", "safe", "frob"}
	for _, row := range table {
		firsts = append(firsts, strings.Fields(row)[0])
	}
	words := slices.Concat(numbers, wrong, readings, keys, []string{"0", "0", "0", "1", "1", "a", "b", "-", "\\2d", "\\7f"})
	for range 20000 {
		var b strings.Builder
		b.WriteString(pick(r.Rand, "", "", "cluster 1 1 1 1000\n", "cluster 2 2 2 10000\nbegin 0\nbegin 1\n"))
		for range 1 + r.Intn(6) {
			line := []any{pick(r.Rand, firsts...)}
			for range r.Intn(5) {
				line = append(line, pick(r.Rand, words...))
			}
			b.WriteString(r.spaced(line) + pick(r.Rand, "\n", "\n", "\n", " \n", "\n\n", ""))
		}
		text := b.String()
		if have, want := script.Run(text), plainRun(text); have != want {
			t.Fatalf("%q: %q, want %q", text, have, want)
		}
	}
}

// behind answers something that may stand behind a text.
func (r *chance) behind(lines []string) string {
	switch r.Intn(6) {
	case 0:
		return pick(r.Rand, "", " ", "\n", "#", "x", "\x00", "\\", "0", "cluster 1 1 1 1", "cluster 9 9 9 9\n", "kill 0\n", "cluster")
	case 1:
		b := make([]byte, r.Intn(3000))
		r.Read(b)
		return string(b)
	case 2:
		return strings.Repeat(pick(r.Rand, "\n", "letters\n", "x\n"), r.Intn(300))
	case 3:
		return strings.Repeat(pick(r.Rand, " ", "#", "x", "0", "-", "\xff"), r.Intn(30000))
	}
	return strings.Join(lines[r.Intn(len(lines)):], "\n")
}

// TestBehind: P20.2: the answers of a text are a beginning of those of that text with anything behind it, behind a byte 10; as many as it has lines that are answered.
func TestBehind(t *testing.T) {
	for seed := range int64(300) {
		r := newChance(t, seed)
		lines := r.spoil(r.lines(60))
		all := strings.Join(lines, "\n")
		lines = strings.Split(all, "\n")
		whole := script.Run(all)
		ahead, count := "", 0
		for _, line := range lines {
			ahead += line
			if !unanswered.MatchString(line) {
				count++
			}
			have := script.Run(ahead)
			if !strings.HasPrefix(whole, have) || strings.Count(have, "\n") != count {
				t.Fatalf("%q: %q, want %d answers of %q", ahead, have, count, whole)
			}
			ahead += "\n"
			if behind := script.Run(ahead); behind != have {
				t.Fatalf("%q: %q with a byte 10 behind it, %q without", ahead, behind, have)
			}
			behind := ahead + r.behind(lines)
			if longer := script.Run(behind); longer != "error 3\n" && !strings.HasPrefix(longer, have) {
				t.Fatalf("%q: %q, and behind %q: %q", behind, longer, ahead, have)
			}
		}
		// A text that ends within a line: what stands ahead of that line is answered alike.
		for range 40 {
			cut := all[:r.Intn(len(all)+1)]
			full := cut[:strings.LastIndex(cut, "\n")+1]
			have := script.Run(full)
			if !strings.HasPrefix(script.Run(cut), have) || !strings.HasPrefix(script.Run(cut+r.behind(lines)), have) {
				t.Fatalf("%q: %q, but behind it %q", full, have, script.Run(cut))
			}
		}
	}
}

// TestSameAgain: P0.5 and R7: a text is answered alike once more, whatever is answered ahead of it and meanwhile.
func TestSameAgain(t *testing.T) {
	var texts, told []string
	for seed := range int64(40) {
		r := newChance(t, seed)
		texts = append(texts, strings.Join(r.spoil(r.lines(400)), "\n"))
		told = append(told, script.Run(texts[seed]))
	}
	for i := range slices.Backward(texts) {
		if have := script.Run(texts[i]); have != told[i] {
			t.Fatalf("text %d is answered otherwise", i)
		}
	}
	var all sync.WaitGroup
	for range 3 {
		for i, text := range texts {
			all.Go(func() {
				if script.Run(text) != told[i] {
					t.Errorf("text %d is answered otherwise", i)
				}
			})
		}
	}
	all.Wait()
}

// TestAnything: P0: texts of whatever bytes; each call ends, none panics, and there is an answer for each line that has one.
func TestAnything(t *testing.T) {
	r := newChance(t, 1)
	for range 3000 {
		b := make([]byte, pick(r.Rand, r.Intn(40), r.Intn(3000), r.Intn(100)))
		r.Read(b)
		if r.Intn(3) > 0 {
			for i := range b {
				b[i] = pick(r.Rand, ' ', '\n', '-', '#', '\\', '0', '1', 'a', b[i])
			}
		}
		text := pick(r.Rand, "", "cluster 1 1 1 1000\n", "cluster 4 8 4 1048576\n") + string(b)
		want := 0
		for line := range strings.SplitSeq(text, "\n") {
			if !unanswered.MatchString(line) {
				want++
			}
		}
		if have := script.Run(text); strings.Count(text, "\n") <= 1024 && strings.Count(have, "\n") != want || have != "" && !strings.HasSuffix(have, "\n") {
			t.Fatalf("%q: %q, want %d answers", text, have, want)
		}
	}
	for _, text := range []string{
		strings.Repeat("cluster 4 8 4 1048576\n", 1024),
		"cluster 4 8 4 1048576\n" + strings.Repeat("safe\n", 1000),
		"cluster 1 1 1 1048576\nbegin 0\n" + strings.Repeat("put 0 a x\n", 1000),
		"cluster 4 8 4 1048576\nbegin 0\n" + strings.Repeat("scan 0 - - 9\ntake 0\ngive 0\n", 340),
	} {
		if have := answers(t, text); len(have) != strings.Count(text, "\n") {
			t.Errorf("%.60q: %d answers", text, len(have))
		}
	}
}
