package script_test

import (
	"fmt"
	"slices"
	"strings"
	"testing"

	"dovecote/script"
)

// The tests of P20.1, line by line: which words are right where, and where a text ends.

// table is the chapter's: each line, with the names of what is needed. (What Fuel's N needs is like a RAW.)
var table = []string{
	"cluster NODES SHARDS CLIENTS ROOM",
	"begin C", "commit C", "abort C",
	"get C KEY", "put C KEY VAL", "delete C KEY", "scan C KEY TO LIMIT",
	"take RAW", "lose RAW", "double RAW",
	"clock N PHYS", "watch C PHYS",
	"kill N", "rise N KEEP..",
	"fuel S RAW", "again C", "give C", "safe", "renew S",
	"show S", "letters",
}

// made lets a cluster be at hand.
const made = "cluster 2 2 2 10000\n"

// wordOf answers a right word of a name.
func wordOf(name string) string {
	switch name {
	case "KEY", "VAL", "TO":
		return "a"
	case "ROOM", "PHYS":
		return "1000"
	}
	return "1"
}

// wordsOf answers the right words of each line of the table, the first one and those behind it; of rise without numbers.
func wordsOf(row string) (names, words []string) {
	names = strings.Fields(strings.TrimSuffix(row, " KEEP.."))
	words = []string{names[0]}
	for _, name := range names[1:] {
		words = append(words, wordOf(name))
	}
	return names, words
}

// isRefused tells whether a line is answered with error 50, whether or not a cluster is at hand: what is no line is told ahead of what is missing.
func isRefused(t *testing.T, line string) bool {
	t.Helper()
	with, without := last(t, made+line), last(t, line)
	if (with == "error 50") != (without == "error 50") {
		t.Fatalf("%q: %q with a cluster at hand, %q without", line, with, without)
	}
	if isMaker := strings.HasPrefix(strings.TrimLeft(line, " "), "cluster "); !isMaker && without != "error 50" && without != "error 1" {
		t.Fatalf("%q: %q without a cluster at hand", line, without)
	}
	return with == "error 50"
}

// rightly and wrongly hold whether a line is refused against whether it must be; what one that is refused leaves is as it was.
func rightly(t *testing.T, line string) {
	t.Helper()
	if isRefused(t, line) {
		t.Errorf("%q is refused", line)
	}
}

func wrongly(t *testing.T, line string) {
	t.Helper()
	if !isRefused(t, line) {
		t.Errorf("%q isn't refused: %q", line, last(t, made+line))
	}
	behind := "letters\nshow 0\nshow 1\nbegin 0\ncommit 0\nbegin 1\n"
	if have, want := script.Run(made+line+"\n"+behind), "ok\nerror 50\n0\n.\n.\n0 fine 0.1\n0 committed 0.1\n1 fine 0.1\n"; have != want {
		t.Errorf("behind %q: %q, want %q", line, have, want)
	}
}

// TestWords: each line with its words, with one missing, with one over, and with none at all.
func TestWords(t *testing.T) {
	for _, row := range table {
		names, words := wordsOf(row)
		line := strings.Join(words, " ")
		rightly(t, line)
		for n := range len(words) - 1 {
			if n > 0 {
				wrongly(t, strings.Join(words[:n], " "))
			}
			wrongly(t, strings.Join(slices.Delete(slices.Clone(words), n+1, n+2), " "))
		}
		if len(words) > 1 {
			wrongly(t, words[0])
		}
		if names[0] != "rise" {
			for _, over := range []string{"1", "a", "-", "x y", "1 1 1 1", "#", "# 1"} {
				wrongly(t, line+" "+over)
			}
		}
	}
	for n, isRight := range []bool{true, true, true, true, true, false, false, false} {
		line := "rise 1" + strings.Repeat(" 1", n)
		if isRefused(t, line) == isRight {
			t.Errorf("%q: refused %v", line, isRight)
		}
	}
	for n := 1; n < 5; n++ {
		for place := range n {
			words := slices.Repeat([]string{"1"}, n)
			words[place] = "x"
			wrongly(t, "rise 1 "+strings.Join(words, " "))
		}
	}
}

// TestFirstWords: words that no line begins with.
func TestFirstWords(t *testing.T) {
	for _, row := range table {
		_, words := wordsOf(row)
		for _, first := range []string{
			strings.ToUpper(words[0]), strings.ToUpper(words[0][:1]) + words[0][1:], words[0] + words[0], words[0] + "s", words[0] + "#",
			words[0][1:], words[0][:len(words[0])-1], "\\" + words[0], "-" + words[0], words[0] + "\x00", "x" + words[0], words[0] + ";",
		} {
			wrongly(t, strings.Join(append([]string{first}, words[1:]...), " "))
		}
	}
	for _, line := range []string{"frob", "frob 0", "0", "-", "1 begin 0", "x # y", "\x00", "\xff", "\t", "\r", "\v", "\f", "\u00a0", "\u2003", "a\u2028b", ".", ";", "\\23", "move 0", "do 0", "up 0", "start 0", "quiet"} {
		wrongly(t, line)
	}
}

// TestBlanks: words stand between bytes 32, however many there are; no other byte parts them.
func TestBlanks(t *testing.T) {
	for _, row := range table {
		_, words := wordsOf(row)
		line := strings.Join(words, " ")
		want := script.Run(made + line + "\n")
		for _, blanks := range []string{" " + line, line + " ", "    " + line + "   ", strings.ReplaceAll(line, " ", "  "), " " + strings.ReplaceAll(line, " ", "     ") + " "} {
			if have := script.Run(made + blanks + "\n"); have != want {
				t.Errorf("%q: %q, want %q", blanks, have, want)
			}
		}
		for _, b := range []string{"\t", "\r", "\v", "\f", "\x00", "\u00a0", "\u2003", "\u0085", "\xa0", "\x1f", "\x21", ",", "="} {
			if len(words) > 1 {
				wrongly(t, strings.Replace(line, " ", b, 1))
				wrongly(t, words[0]+b+" "+strings.Join(words[1:], " "))
			}
			wrongly(t, b+line)
			if last := words[len(words)-1]; last != "a" || b < "!" || b > "~" {
				wrongly(t, line+b)
			}
			wrongly(t, line+" "+b)
		}
	}
}

// TestUnanswered: lines without words, and those whose first word begins with #, have no answer, whatever stands in them.
func TestUnanswered(t *testing.T) {
	for _, line := range []string{
		"", " ", "        ", "#", "##", "# ", "#begin 0", "# begin 0", "  # x", "   #", "#\t\x00\xff\\", "# # #", "#letters", "#" + strings.Repeat(" x", 20000),
	} {
		for text, want := range map[string]string{
			line:                                 "",
			line + "\n":                          "",
			"\n" + line + "\n\n" + line:          "",
			"letters\n" + line + "\nletters\n":   "error 1\nerror 1\n",
			made + line + "\nbegin 0\n" + line:   "ok\n0 fine 0.1\n",
			line + "\n" + made + "begin 0\n\n\n": "ok\n0 fine 0.1\n",
		} {
			if have := script.Run(text); len(text) <= 65536 && have != want {
				t.Errorf("%.100q: %q, want %q", text, have, want)
			}
		}
	}
	// A # elsewhere is a byte like any other.
	for line, want := range map[string]string{
		"letters #": "error 50", "letters#": "error 50", "x#": "error 50", "begin #": "error 50", "begin 0#": "error 50", "begin 0 # x": "error 50",
		"-#": "error 50", "\t# x": "error 50", "\\23": "error 50",
	} {
		if have := last(t, made+line); have != want {
			t.Errorf("%q: %q, want %q", line, have, want)
		}
	}
	holds(t, "cluster 1 1 1 1000 -> ok\nbegin 0 -> 0 fine 0.1\nput 0 # # -> 0 fine 0.0\nget 0 # -> 0 value +#\nput 0 #x ## -> 0 fine 0.0\nget 0 \\23x -> 0 value +##")
}

// TestLineEnds: a line behind the last byte 10 is one like the others; where there is none, there is no answer either.
func TestLineEnds(t *testing.T) {
	for text, want := range map[string]string{
		"letters":                      "error 1\n",
		"letters\n":                    "error 1\n",
		"letters\n\n":                  "error 1\n",
		"letters\n ":                   "error 1\n",
		"\nletters":                    "error 1\n",
		"letters\nx":                   "error 1\nerror 50\n",
		"letters\nx\n":                 "error 1\nerror 50\n",
		"letters\r\nletters\r\n":       "error 50\nerror 50\n",
		"letters\\nletters":            "error 50\n",
		"letters\x00\nletters":         "error 50\nerror 1\n",
		made + "begin 0\nshow 0":       "ok\n0 fine 0.1\n.\n",
		made + "begin 0\nshow 0\n":     "ok\n0 fine 0.1\n.\n",
		made + "begin 0\nshow 0\n#":    "ok\n0 fine 0.1\n.\n",
		made + "begin\n0\nshow 0\n0\n": "ok\nerror 50\nerror 50\n.\nerror 50\n",
	} {
		if have := script.Run(text); have != want {
			t.Errorf("%q: %q, want %q", text, have, want)
		}
	}
}

// TestLimits: texts of MaxText bytes and of MaxLines bytes 10, and of one more.
func TestLimits(t *testing.T) {
	const more = "error 3\n"
	padded := func(line string, bytes int) string { return line + strings.Repeat("x", bytes-len(line)) }
	for _, c := range []struct{ what, text, want string }{
		{"1024 ends of lines", strings.Repeat("\n", 1024), ""},
		{"1025 ends of lines", strings.Repeat("\n", 1025), more},
		{"2000 ends of lines", strings.Repeat("\n", 2000), more},
		{"1024 lines", strings.Repeat("x\n", 1024), strings.Repeat("error 50\n", 1024)},
		{"1024 lines, and one that has no end", strings.Repeat("x\n", 1024) + "letters", strings.Repeat("error 50\n", 1024) + "error 1\n"},
		{"1025 lines", strings.Repeat("x\n", 1025), more},
		{"1024 lines of remarks, and one more", strings.Repeat("# x\n", 1024) + "letters", "error 1\n"},
		{"1025 lines of remarks", strings.Repeat("# x\n", 1025), more},
		{"65536 bytes", strings.Repeat("x", 65536), "error 50\n"},
		{"65537 bytes", strings.Repeat("x", 65537), more},
		{"65536 blanks", strings.Repeat(" ", 65536), ""},
		{"65537 blanks", strings.Repeat(" ", 65537), more},
		{"65536 bytes of two lines", padded("letters\n# ", 65536), "error 1\n"},
		{"65537 bytes of two lines", padded("letters\n# ", 65537), more},
		{"65536 bytes, the last of which ends a line", padded("letters\n# ", 65535) + "\n", "error 1\n"},
		{"65537 bytes, the last of which ends a line", padded("letters\n# ", 65536) + "\n", more},
		{"65536 bytes, 1024 of which end lines", strings.Repeat(padded("# ", 63)+"\n", 1024), ""},
		{"65537 bytes, 1024 of which end lines", strings.Repeat(padded("# ", 63)+"\n", 1024) + "#", more},
		{"65536 bytes, 1025 of which end lines", strings.Repeat("\n", 1025) + padded("#", 65536-1025), more},
		{"65537 bytes, 1025 of which end lines", strings.Repeat("\n", 1025) + padded("#", 65537-1025), more},
		{"65536 bytes in runes of three", strings.Repeat("\u2028", 21845) + "x", "error 50\n"},
		{"65538 bytes in runes of three", strings.Repeat("\u2028", 21846), more},
		{"a million bytes", strings.Repeat("letters\n", 125000), more},
	} {
		if have := script.Run(c.text); have != c.want {
			t.Errorf("%s: %.200q, want %.200q", c.what, have, c.want)
		}
	}
}

// Words that are numbers, and words that aren't.
var (
	numbers = []string{"0", "1", "-1", "2", "7", "9", "10", "-10", "100", "-900", "65536", "2147483648", "-2147483649", "4294967296", "9223372036854775806", "9223372036854775807", "-9223372036854775807", "-9223372036854775808"}
	wrong   = []string{
		"00", "01", "007", "-0", "-00", "-01", "+0", "+1", "+-1", "-+1", "--1", "-", "--", "+", "1-", "1+", "1 1", "x", "a", "1a", "a1", "0x1", "0b1", "0o1", "1_0", "1e3", "1.0", "1.", ".1", "1,", "#", "#1", "1#",
		"9223372036854775808", "-9223372036854775809", "18446744073709551615", "18446744073709551616", "-18446744073709551615", "99999999999999999999", "10000000000000000000000000000000000000000", "-10000000000000000000000000000000000000000", "09223372036854775807",
		"\t1", "1\t", "1\r", "\u0661", "\uff11", "1\x00", "\x00", "\xff", "1\xff", "\\31", "inf", "NaN", "null",
	}
	readings = []string{"0", "1", "7", "10", "1000", "281474976710656", "9223372036854775807", "9223372036854775808", "18446744073709551614", "18446744073709551615"}
	// What is a number, but no reading, and the other way round.
	unread   = []string{"-1", "-10", "-9223372036854775808"}
	unwanted = []string{"9223372036854775808", "18446744073709551615"}
)

// TestNumbers: numbers at each place of each line, right ones and wrong ones.
func TestNumbers(t *testing.T) {
	for _, row := range table {
		names, words := wordsOf(row)
		if names[0] == "rise" {
			names, words = append(names, "KEEP", "KEEP", "KEEP", "KEEP"), append(words, "1", "1", "1", "1")
		}
		for place, name := range names {
			with := func(word string) string {
				l := slices.Clone(words)
				l[place] = word
				return strings.Join(l, " ")
			}
			right, bad := numbers, wrong
			switch name {
			case names[0], "KEY", "VAL", "TO":
				continue
			case "PHYS":
				right = readings
				bad = slices.DeleteFunc(slices.Concat(wrong, unread), func(w string) bool { return slices.Contains(unwanted, w) })
			}
			for _, word := range right {
				rightly(t, with(word))
			}
			for _, word := range bad {
				if !strings.Contains(word, " ") || names[0] != "rise" {
					wrongly(t, with(word))
				}
			}
		}
	}
}

// TestBytes: each byte as itself, where it may be, and by two digits; what is told by them is told so again.
func TestBytes(t *testing.T) {
	const ahead = "cluster 1 1 1 10000\nbegin 0\n"
	for b := range 256 {
		digits := fmt.Sprintf("\\%02x", b)
		isPlain := b >= 0x21 && b <= 0x7e && b != '\\'
		told := digits
		if isPlain {
			told = string(rune(b))
		}
		alone := told
		if b == '-' {
			alone = digits
		}
		for text, want := range map[string]string{
			"put 0 k " + digits + "\nget 0 k":                                                           "0 fine 0.0\n0 value +" + alone + "\n",
			"put 0 k x" + digits + "\nget 0 k":                                                          "0 fine 0.0\n0 value +x" + told + "\n",
			"put 0 k " + digits + "x\nget 0 k":                                                          "0 fine 0.0\n0 value +" + told + "x\n",
			"put 0 k " + digits + digits + "\nget 0 k":                                                  "0 fine 0.0\n0 value +" + told + told + "\n",
			"put 0 " + digits + " x\nget 0 " + digits:                                                   "0 fine 0.0\n0 value +x\n",
			"put 0 " + digits + " x\nscan 0 - - 9\ntake 0\ntake 0":                                      "0 fine 0.0\nok\nok\n0 pairs " + alone + "=x\n",
			"put 0 " + digits + " " + digits + "\ncommit 0\ntake 0\nshow 0\ntake 0\ntake 0\nshow 0":     "0 fine 0.0\nok\nok\n" + alone + "!0.1\nok\nok\n" + alone + ":0.2=" + alone + " 0.1?0.2\n",
			"delete 0 x" + digits + "\ncommit 0\ntake 0\ntake 0\ntake 0\nshow 0":                        "0 fine 0.0\nok\nok\nok\nok\nx" + told + ":0.2x 0.1?0.2\n",
			"put 0 x x\nscan 0 x" + digits + " - 9\ntake 0\ntake 0\nscan 0 x x" + digits + " 9\ntake 0": "0 fine 0.0\nok\nok\n0 pairs\nok\nok\n",
			"put 0 x x\nscan 0 x x" + digits + " 9\ntake 0\ntake 0":                                     "0 fine 0.0\nok\nok\n0 pairs x=x\n",
		} {
			if have := script.Run(ahead + text); have != "ok\n0 fine 0.1\n"+want {
				t.Errorf("%q: %q, want %q", text, have, want)
			}
		}
		plain := string([]byte{byte(b)})
		switch {
		case isPlain && b != '-':
			for _, word := range []string{plain, plain + plain, "x" + plain, plain + "x", "-" + plain, plain + "-"} {
				holds(t, begun+"put 0 "+word+" "+word+" -> 0 fine 0.0\nget 0 "+word+" -> 0 value +"+word)
			}
			holds(t, begun+"put 0 "+digits+" x -> 0 fine 0.0\nget 0 "+plain+" -> 0 value +x")
		case b != '-' && b != ' ' && b != '\n':
			for _, word := range []string{plain, plain + plain, "x" + plain, plain + "x", plain + "\\20", "-" + plain} {
				wrongly(t, "put 0 "+word+" x")
				wrongly(t, "put 0 x "+word)
				wrongly(t, "get 0 "+word)
				wrongly(t, "delete 0 "+word)
				wrongly(t, "scan 0 "+word+" x 9")
				wrongly(t, "scan 0 x "+word+" 9")
			}
		}
	}
}

// begun lets a cluster be at hand, with a transaction, as rows with their answers.
const begun = "cluster 1 1 1 10000 -> ok\nbegin 0 -> 0 fine 0.1\n"

// TestDigits: a backslash with two digits, with capital ones, with others, with one or none.
func TestDigits(t *testing.T) {
	for high := range 256 {
		for _, low := range []int{'0', '9', 'a', 'f', 'A', 'F', 'g', '`', '/', ':', '@', 'G', '-', '\\', 'x'} {
			if high == ' ' || high == '\n' {
				continue
			}
			word := string([]byte{'\\', byte(high), byte(low)})
			isDigit := func(b int) bool { return '0' <= b && b <= '9' || 'a' <= b && b <= 'f' }
			if isDigit(high) && isDigit(low) {
				rightly(t, "put 0 "+word+" "+word)
			} else {
				wrongly(t, "put 0 "+word+" x")
				wrongly(t, "put 0 x "+word)
			}
			if high != low && isDigit(low) && !isDigit(high) {
				wrongly(t, "put 0 x "+string([]byte{'\\', byte(low), byte(high)}))
			}
		}
	}
	for _, word := range []string{"\\", "\\4", "\\a", "\\\\", "\\\\41", "x\\", "x\\4", "\\41\\", "\\41\\4", "\\4\\41", "\\x41", "\\u0041", "\\n", "\\-1", "\\+1", "\\4A", "\\A4", "\\AA", "-\\", "-\\4"} {
		wrongly(t, "get 0 "+word)
		wrongly(t, "put 0 x "+word)
		wrongly(t, "put 0 "+word+" x")
		wrongly(t, "scan 0 x "+word+" 1")
	}
	holds(t, begun+`
		put 0 \41\42 \4142\5c5c -> 0 fine 0.0
		get 0 AB                -> 0 value +A42\5c5c
		put 0 - x               -> 0 failed 1
		put 0 \2d x             -> 0 fine 0.0
		put 0 -- -\2d-          -> 0 fine 0.0
		get 0 \2d               -> 0 value +x
		get 0 \2d-              -> 0 value +---
		put 0 \2d1 -1           -> 0 fine 0.0
		get 0 -1                -> 0 value +-1
		scan 0 - - 9            -> ok
		take 0                  -> ok
		take 0                  -> 0 pairs \2d=x --=--- -1=-1 AB=A42\5c5c
	`)
}

// TestLongWords: keys of 32 bytes, and values of 256, however they are written, are told whole; longer ones are refused by the client, not by the line.
func TestLongWords(t *testing.T) {
	key, val := strings.Repeat("k", 32), strings.Repeat("v", 256)
	dark := strings.Repeat("\\00", 256)
	holds(t, begun+
		"put 0 "+key+" "+val+" -> 0 fine 0.0\n"+
		"get 0 "+strings.Repeat("\\6b", 32)+" -> 0 value +"+val+"\n"+
		"put 0 "+dark[:96]+" "+dark+" -> 0 fine 0.0\n"+
		"get 0 "+dark[:96]+" -> 0 value +"+dark+"\n"+
		"scan 0 "+dark[:96]+" "+key+" 9 -> ok\n"+
		"take 0 -> ok\n"+
		"take 0 -> 0 pairs "+dark[:96]+"="+dark+"\n"+
		"put 0 "+key+"k x -> 0 failed 1\n"+
		"put 0 "+dark[:99]+" x -> 0 failed 1\n"+
		"put 0 k "+val+"v -> 0 failed 1\n"+
		"get 0 "+key+"k -> 0 failed 1\n"+
		"delete 0 "+key+"k -> 0 failed 1\n"+
		"scan 0 "+key+"k - 9 -> 0 failed 1\n"+
		"scan 0 - "+key+"k 9 -> 0 failed 1\n"+
		"put 0 k "+strings.Repeat("v", 30000)+" -> 0 failed 1\n")
}

// TestClusters: which numbers make a cluster; a right one is at hand from then on, without what was before, and one that is refused changes nothing.
func TestClusters(t *testing.T) {
	for field, bounds := range [][2]int{{1, 4}, {1, 8}, {1, 4}, {0, 1048576}} {
		for n, isRight := range map[int]bool{bounds[0] - 1: false, bounds[0]: true, bounds[1]: true, bounds[1] + 1: false, -1 << 63: false, 1<<63 - 1: false, 1<<32 + 1: false} {
			words := []string{"cluster", "1", "1", "1", "1000"}
			words[field+1] = fmt.Sprint(n)
			want := map[bool]string{true: "ok\n", false: "error 1\n"}[isRight]
			if have := script.Run(strings.Join(words, " ")); have != want {
				t.Errorf("%q: %q, want %q", words, have, want)
			}
		}
	}
	holds(t, `
		letters              -> error 1
		cluster 0 1 1 1000   -> error 1
		letters              -> error 1
		cluster 1 1 1        -> error 50
		letters              -> error 1
		cluster 1 2 3 1000   -> ok
		begin 2              -> 2 fine 0.1
		begin 3              -> error 1
		put 2 a x            -> 2 fine 0.0
		commit 2             -> ok
		cluster 1 1 5 1000   -> error 1
		cluster 1 1 5 1000 1 -> error 50
		letters              -> 1
		take 0               -> ok
		show 0               -> a!2.1
		show 1               -> .
		cluster 3 1 1 1000   -> ok
		letters              -> 0
		show 0               -> .
		show 1               -> none
		begin 2              -> error 1
		begin 0              -> 0 fine 0.1
		kill 2               -> ok
		kill 3               -> error 1
		cluster 3 1 1 1000   -> ok
		begin 0              -> 0 fine 0.1
	`)
}
