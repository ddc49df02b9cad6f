package script_test

import (
	"strings"
	"testing"

	"dovecote/script"
)

// The tests of P20.1, answer by answer. Of two shards a and c live on 0, at node 0, b on 1, at node 1.

// holds holds what the lines of told are answered against what stands beside them, behind an arrow; a line without an arrow has no answer.
func holds(t *testing.T, told string) {
	t.Helper()
	var text, want, asked []string
	for _, row := range strings.Split(strings.TrimSpace(told), "\n") {
		line, answer := strings.TrimLeft(row, "\t"), ""
		// The last arrow: a line may have one itself.
		if n := strings.LastIndex(line, "-> "); n >= 0 {
			line, answer = strings.TrimRight(line[:n], " "), line[n+3:]
			want, asked = append(want, answer), append(asked, line)
		}
		text = append(text, line)
	}
	have := answers(t, strings.Join(text, "\n"))
	for i, line := range asked {
		if i >= len(have) || have[i] != want[i] {
			t.Fatalf("%q, answer %d of %q, want %q", line, i, have, want[i])
		}
	}
	if len(have) != len(asked) {
		t.Fatalf("%d answers, want %d: %q", len(have), len(asked), have)
	}
}

// answers answers what the lines of a text are answered, each of which ends with a byte 10.
func answers(t *testing.T, text string) []string {
	t.Helper()
	have := script.Run(text)
	if have == "" {
		return nil
	}
	if !strings.HasSuffix(have, "\n") {
		t.Fatalf("%q: %q doesn't end with a byte 10", text, have)
	}
	return strings.Split(strings.TrimSuffix(have, "\n"), "\n")
}

// last answers what the last line of a text is answered.
func last(t *testing.T, text string) string {
	t.Helper()
	l := answers(t, text)
	if len(l) == 0 {
		t.Fatalf("%q has no answer", text)
	}
	return l[len(l)-1]
}

// TestChapter: the chapter's examples, bytes and all.
func TestChapter(t *testing.T) {
	for text, want := range map[string]string{
		"cluster 1 1 1 1000\nbegin 0\nletters\ntake x":   "ok\n0 fine 0.1\n0\nerror 50\n",
		"cluster 1 1 1 1000\nbegin 0\nletters\ntake x\n": "ok\n0 fine 0.1\n0\nerror 50\n",
		"":                         "",
		"\n":                       "",
		"take x":                   "error 50\n",
		"letters":                  "error 1\n",
		"\n\n# begin 0\nletters\n": "error 1\n",
	} {
		if have := script.Run(text); have != want {
			t.Errorf("%q: %q, want %q", text, have, want)
		}
	}
}

// TestOps: what a client is told at once: fine, a value, committed, failed; and what isn't told to anybody.
func TestOps(t *testing.T) {
	holds(t, `
		cluster 2 2 2 10000  -> ok
		commit 0             -> 0 failed 41
		abort 1              -> 1 failed 41
		get 1 a              -> 1 failed 41
		put 1 a x            -> 1 failed 41
		delete 1 a           -> 1 failed 41
		scan 1 a c 9         -> 1 failed 41
		give 0               -> 0 failed 41
		watch 0 10           -> ok
		begin 0              -> 0 fine 10.0
		begin 0              -> 0 failed 40
		begin 1              -> 1 fine 0.1
		commit 1             -> 1 committed 0.1
		begin 1              -> 1 fine 0.2
		abort 1              -> 1 fine 0.0
		abort 1              -> 1 failed 41
		put 0 a x            -> 0 fine 0.0
		get 0 a              -> 0 value +x
		put 0 a -            -> 0 fine 0.0
		get 0 a              -> 0 value +-
		put 0 a \2d          -> 0 fine 0.0
		get 0 a              -> 0 value +\2d
		put 0 a --           -> 0 fine 0.0
		get 0 a              -> 0 value +--
		delete 0 a           -> 0 fine 0.0
		get 0 a              -> 0 value -
		put 0 - x            -> 0 failed 1
		get 0 -              -> 0 failed 1
		delete 0 -           -> 0 failed 1
		get 0 b              -> ok
		get 0 b              -> 0 failed 40
		commit 0             -> 0 failed 40
		give 0               -> 0 failed 42
		give 0               -> 0 failed 41
		letters              -> 1
		commit 0             -> ok
		letters              -> 2
		give 0               -> 0 aborted 42
		letters              -> 3
		show 0               -> .
		show 1               -> .
	`)
}

// TestReads: what is told when letters arrive: a value of one and of none, pairs of none, one and several.
func TestReads(t *testing.T) {
	holds(t, `
		cluster 2 2 2 10000  -> ok
		watch 0 10           -> ok
		clock 0 10           -> ok
		clock 1 10           -> ok
		begin 0              -> 0 fine 10.0
		put 0 a x            -> 0 fine 0.0
		put 0 b -            -> 0 fine 0.0
		put 0 \61\3d= \5c\00 -> 0 fine 0.0
		scan 0 - - 16        -> ok
		letters              -> 2
		take 1               -> ok
		take 0               -> ok
		take 0               -> ok
		take 0               -> 0 pairs a=x a===\5c\00 b=-
		commit 0             -> ok
		take 0               -> ok
		take 0               -> ok
		take 0               -> ok
		take 0               -> ok
		take 0               -> ok
		take 0               -> 0 committed 10.1
		take 0               -> ok
		letters              -> 1
		lose 0               -> ok
		watch 1 20           -> ok
		begin 1              -> 1 fine 20.0
		get 1 a              -> ok
		take -1              -> ok
		take -1              -> 1 value +x
		get 1 c              -> ok
		take -1              -> ok
		take -1              -> 1 value -
		get 1 a==            -> ok
		take -1              -> ok
		take -1              -> 1 value +\5c\00
		scan 1 a a\00 16     -> ok
		take -1              -> ok
		take -1              -> ok
		take -1              -> ok
		take -1              -> 1 pairs a=x
		scan 1 c - 16        -> ok
		take -1              -> ok
		take -1              -> ok
		take -1              -> ok
		take -1              -> 1 pairs
		scan 1 - - 1         -> ok
		take -1              -> ok
		take -1              -> ok
		take -1              -> ok
		take -1              -> 1 pairs a=x
		scan 1 - - 0         -> ok
		take -1              -> ok
		take -1              -> ok
		take -1              -> ok
		take -1              -> 1 pairs
		scan 1 - - -1        -> ok
		take -1              -> ok
		take -1              -> ok
		take -1              -> ok
		take -1              -> 1 pairs
	`)
}

// TestEnds: how commits end when letters arrive, are lost, or come twice: committed, aborted, unknown; and the letters that are under way.
func TestEnds(t *testing.T) {
	holds(t, `
		cluster 1 1 3 10000  -> ok
		watch 0 10           -> ok
		clock 0 10           -> ok
		begin 0              -> 0 fine 10.0
		begin 1              -> 1 fine 0.1
		begin 2              -> 2 fine 0.1
		put 0 a x            -> 0 fine 0.0
		put 1 a y            -> 1 fine 0.0
		put 2 b z            -> 2 fine 0.0
		commit 0             -> ok
		letters              -> 1
		double 0             -> ok
		letters              -> 2
		take 0               -> ok
		letters              -> 2
		show 0               -> a!0.1
		lose 0               -> ok
		letters              -> 1
		take 0               -> ok
		take 0               -> ok
		letters              -> 1
		lose 0               -> ok
		letters              -> 0
		lose 0               -> ok
		take 0               -> ok
		double 0             -> ok
		letters              -> 0
		again 0              -> ok
		letters              -> 1
		take 0               -> ok
		take 0               -> 0 committed 10.1
		show 0               -> a:10.1=x 0.1?10.1
		commit 1             -> ok
		take -1              -> ok
		take -1              -> 1 aborted 40
		show 0               -> a:10.1=x 0.1?10.1
		commit 2             -> ok
		take -1              -> ok
		take -1              -> ok
		give 2               -> 2 unknown 42
		begin 2              -> 2 fine 10.3
		again 2              -> ok
		letters              -> 3
		take -1              -> ok
		take -1              -> ok
		letters              -> 2
		show 0               -> a:10.1=x b:10.2=z 0.1?10.1 2.1?10.2
		take 0               -> ok
		take 0               -> ok
		show 0               -> a:10.1=x b:10.2=z 0.1?10.1 1.1?0.0 2.1?10.2
	`)
}

// TestClocks: what clocks read is told by the stamps that come of it, up to the greatest, and by the errors.
func TestClocks(t *testing.T) {
	holds(t, `
		cluster 2 2 2 10000           -> ok
		begin 0                       -> 0 fine 0.1
		abort 0                       -> 0 fine 0.0
		watch 0 281474976710656       -> ok
		begin 0                       -> 0 fine 281474976710656.0
		abort 0                       -> 0 fine 0.0
		begin 0                       -> 0 fine 281474976710656.1
		abort 0                       -> 0 fine 0.0
		watch 0 281474976710657       -> ok
		begin 0                       -> 0 failed 20
		watch 0 18446744073709551615  -> ok
		begin 0                       -> 0 failed 20
		watch 1 7                     -> ok
		begin 1                       -> 1 fine 7.0
		abort 1                       -> 1 fine 0.0
		watch 1 2000                  -> ok
		begin 1                       -> 1 fine 2000.0
		get 1 a                       -> ok
		take 0                        -> ok
		take 0                        -> 1 failed 21
		clock 1 2000                  -> ok
		clock 0 999                   -> ok
		get 1 a                       -> ok
		take 0                        -> ok
		take 0                        -> 1 failed 21
		clock 0 18446744073709551615  -> ok
		get 1 a                       -> ok
		take 0                        -> ok
		take 0                        -> 1 value -
		put 1 a x                     -> 1 fine 0.0
		commit 1                      -> ok
		take 0                        -> ok
		take 0                        -> 1 aborted 20
	`)
}

// TestNodes: shards whose node is down are none, and take no letters; those of others go on.
func TestNodes(t *testing.T) {
	holds(t, `
		cluster 2 4 1 10000  -> ok
		kill 1               -> ok
		show 0               -> .
		show 1               -> none
		show 2               -> .
		show 3               -> none
		renew 0              -> ok
		renew 1              -> ok
		begin 0              -> 0 fine 0.1
		put 0 a 1            -> 0 fine 0.0
		put 0 b 2            -> 0 fine 0.0
		put 0 c 3            -> 0 fine 0.0
		put 0 d 4            -> 0 fine 0.0
		commit 0             -> ok
		letters              -> 4
		take 1               -> ok
		take -2              -> ok
		letters              -> 3
		take 1               -> ok
		take 0               -> ok
		letters              -> 2
		rise 0               -> ok
		show 1               -> none
		rise 1               -> ok
		rise 1               -> ok
		show 0               -> c!0.1
		show 1               -> .
		show 2               -> a!0.1
		show 3               -> .
		again 0              -> ok
		letters              -> 6
	`)
}

// TestFalls: of what a drum was about to keep a fall keeps as much as the line of it says, area by area.
func TestFalls(t *testing.T) {
	torn := `
		cluster 1 1 1 10000  -> ok
		renew 0              -> ok
		begin 0              -> 0 fine 0.1
		put 0 a x            -> 0 fine 0.0
		commit 0             -> ok
		take 0               -> ok
		take 0               -> ok
		fuel 0 1             -> ok
		take 0               -> ok
		show 0               -> none
		letters              -> 0
	`
	renewed, laid, committed := "renew 0 -> ok", "show 0 -> a!0.1", "show 0 -> a:0.2=x 0.1?0.2"
	for _, c := range []struct{ ahead, rise, behind string }{
		{renewed, "rise 0", laid},
		{renewed, "rise 0 99", laid},
		{renewed, "rise 0 0 1", laid},
		{renewed, "rise 0 0 -1", laid},
		{renewed, "rise 0 99 0 99 99", laid},
		{renewed, "rise 0 0 99", committed},
		{renewed, "rise 0 -1 9223372036854775807 -9223372036854775808 0", committed},
		{"", "rise 0", laid},
		{"", "rise 0 0 99 99 99", laid},
		{"", "rise 0 99", committed},
		{"", "rise 0 99 0", committed},
		{"", "rise 0 99 0 0 0", committed},
	} {
		ahead := strings.Replace(torn, "renew 0              -> ok", c.ahead, 1)
		holds(t, ahead+c.rise+" -> ok\n"+c.behind)
	}
}

// TestDrums: what drums refuse for lack of room, or of fuel, is told as an error of Renew, or as what becomes of a transaction.
func TestDrums(t *testing.T) {
	holds(t, `
		cluster 1 1 1 0      -> ok
		show 0               -> none
		renew 0              -> error 11
		cluster 1 1 1 30     -> ok
		show 0               -> .
		renew 0              -> error 10
		show 0               -> .
		begin 0              -> 0 fine 0.1
		put 0 a x            -> 0 fine 0.0
		commit 0             -> ok
		take 0               -> ok
		take 0               -> 0 aborted 10
		fuel 0 0             -> ok
		renew 0              -> error 11
		show 0               -> none
		renew 0              -> ok
		rise 0               -> ok
		show 0               -> .
		cluster 1 1 1 10000  -> ok
		fuel 0 4             -> ok
		renew 0              -> ok
		fuel 0 0             -> ok
		fuel 0 -1            -> ok
		renew 0              -> ok
		renew 0              -> ok
		fuel 0 3             -> ok
		renew 0              -> error 11
		show 0               -> none
	`)
}

// TestSafe: the safe time isn't above the start of a transaction that runs: all that it reads is kept.
func TestSafe(t *testing.T) {
	holds(t, `
		cluster 1 1 2 10000  -> ok
		watch 0 5            -> ok
		watch 1 9            -> ok
		clock 0 9            -> ok
		begin 1              -> 1 fine 9.0
		put 1 a x            -> 1 fine 0.0
		commit 1             -> ok
		take 0               -> ok
		take 0               -> ok
		take 0               -> ok
		take 0               -> 1 committed 9.1
		take 0               -> ok
		take 0               -> ok
		begin 1              -> 1 fine 9.2
		delete 1 a           -> 1 fine 0.0
		put 1 b y            -> 1 fine 0.0
		commit 1             -> ok
		take 0               -> ok
		take 0               -> ok
		take 0               -> ok
		take 0               -> 1 committed 9.3
		show 0               -> a:9.3x a:9.1=x b:9.3=y 1.1?9.1 1.2?9.3
		begin 0              -> 0 fine 5.0
		take 0               -> ok
		take 0               -> ok
		letters              -> 0
		safe                 -> ok
		letters              -> 1
		take 0               -> ok
		take 0               -> ok
		show 0               -> a:9.3x a:9.1=x b:9.3=y 1.1?9.1 1.2?9.3
		get 0 a              -> ok
		take 0               -> ok
		take 0               -> 0 value -
	`)
}

// TestPruned: what is below the safe time is pruned, and read no more.
func TestPruned(t *testing.T) {
	holds(t, `
		cluster 1 1 2 10000  -> ok
		watch 0 5            -> ok
		watch 1 50           -> ok
		clock 0 50           -> ok
		begin 1              -> 1 fine 50.0
		put 1 a x            -> 1 fine 0.0
		commit 1             -> ok
		take 0               -> ok
		take 0               -> ok
		take 0               -> ok
		take 0               -> 1 committed 50.1
		take 0               -> ok
		take 0               -> ok
		safe                 -> ok
		take 0               -> ok
		take 0               -> ok
		show 0               -> a:50.1=x
		begin 0              -> 0 fine 5.0
		get 0 a              -> ok
		take 0               -> ok
		take 0               -> 0 failed 30
		scan 0 - - 9         -> ok
		take 0               -> ok
		take 0               -> 0 failed 30
		begin 1              -> 1 fine 50.2
		delete 1 a           -> 1 fine 0.0
		commit 1             -> ok
		take 0               -> ok
		take 0               -> ok
		take 0               -> ok
		take 0               -> 1 committed 50.3
		take 0               -> ok
		take 0               -> ok
		abort 0              -> 0 fine 0.0
		safe                 -> ok
		take 0               -> ok
		take 0               -> ok
		show 0               -> .
	`)
}

// TestShow: versions, dead ones, intents and verdicts, each alone and all together, of all that BYTES have two digits for; nothing, and none.
func TestShow(t *testing.T) {
	holds(t, `
		cluster 2 2 3 10000     -> ok
		show 0                  -> .
		show 1                  -> .
		show 2                  -> none
		show -1                 -> none
		show 9223372036854775807 -> none
		begin 2                 -> 2 fine 0.1
		put 2 b x               -> 2 fine 0.0
		put 2 c \2d             -> 2 fine 0.0
		put 2 \2d -             -> 2 fine 0.0
		put 2 \1f =:!?          -> 2 fine 0.0
		commit 2                -> ok
		letters                 -> 2
		take 0                  -> ok
		take 0                  -> ok
		show 0                  -> \1f!2.1 \2d!2.1 c!2.1
		show 1                  -> b!2.1
		give 2                  -> 2 aborted 42
		take 0                  -> ok
		take 0                  -> ok
		take 0                  -> ok
		take 0                  -> ok
		show 0                  -> 2.1?0.0
		show 1                  -> 2.1?0.0
		letters                 -> 2
		lose 0                  -> ok
		lose 0                  -> ok
		begin 0                 -> 0 fine 0.1
		put 0 \2d -             -> 0 fine 0.0
		put 0 \1f =:!?          -> 0 fine 0.0
		delete 0 \01\ff         -> 0 fine 0.0
		commit 0                -> ok
		show 0                  -> 2.1?0.0
		letters                 -> 1
		take 0                  -> ok
		take 0                  -> ok
		take 0                  -> ok
		show 0                  -> \01\ff:0.3x \1f:0.3==:!? \2d:0.3=- 0.1?0.3 2.1?0.0
		take 0                  -> 0 committed 0.3
		begin 0                 -> 0 fine 0.4
		delete 0 \2d            -> 0 fine 0.0
		commit 0                -> ok
		take -1                 -> ok
		take -1                 -> ok
		take -1                 -> ok
		take -1                 -> 0 committed 0.5
		begin 1                 -> 1 fine 0.1
		put 1 c \2d\2d          -> 1 fine 0.0
		commit 1                -> ok
		take -1                 -> ok
		show 0                  -> \01\ff:0.3x \1f:0.3==:!? \2d:0.5x \2d:0.3=- c!1.1 0.1?0.3 0.2?0.5 2.1?0.0
		kill 0                  -> ok
		show 0                  -> none
		show 1                  -> 2.1?0.0
	`)
}

// TestNotThere: error 1 is what a move shows that is about a client, a node or a shard which isn't there; then nothing has happened.
func TestNotThere(t *testing.T) {
	for _, n := range []string{"-9223372036854775808", "-1", "2", "4", "4294967296", "9223372036854775807"} {
		for _, line := range []string{
			"begin N", "commit N", "abort N", "get N a", "put N a x", "delete N a", "scan N - - 9",
			"clock N 5", "watch N 5", "kill N", "rise N", "rise N 1 2 3 4", "fuel N 0", "again N", "give N", "renew N",
		} {
			line = strings.Replace(line, "N", n, 1)
			holds(t, "cluster 2 2 2 10000 -> ok\n"+line+" -> error 1\nletters -> 0\nshow 0 -> .\nshow 1 -> .\nbegin 0 -> 0 fine 0.1\nrenew 0 -> ok\n")
		}
	}
}

// TestRaw: any number picks a letter, by its remainder: which, is told by which shard has an intent then.
func TestRaw(t *testing.T) {
	for raw, shard := range map[string]string{
		"0": "0", "1": "1", "2": "0", "3": "1", "-1": "1", "-2": "0",
		"9223372036854775807": "1", "9223372036854775806": "0", "-9223372036854775808": "0", "-9223372036854775807": "1",
	} {
		asked := `
			cluster 1 2 1 10000  -> ok
			begin 0              -> 0 fine 0.1
			put 0 a x            -> 0 fine 0.0
			put 0 b y            -> 0 fine 0.0
			commit 0             -> ok
			letters              -> 2
		`
		there := map[string]string{"0": "a!0.1", "1": "b!0.1"}[shard]
		other := map[string]string{"0": "1", "1": "0"}[shard]
		left := map[string]string{"0": "b!0.1", "1": "a!0.1"}[shard]
		holds(t, asked+"take "+raw+" -> ok\nletters -> 2\nshow "+shard+" -> "+there+"\nshow "+other+" -> .\n")
		holds(t, asked+"lose "+raw+" -> ok\nletters -> 1\ntake 0 -> ok\nshow "+shard+" -> .\nshow "+other+" -> "+left+"\n")
		holds(t, asked+"double "+raw+" -> ok\nletters -> 3\ntake 2 -> ok\nletters -> 3\nshow "+shard+" -> "+there+"\nshow "+other+" -> .\n")
	}
}
