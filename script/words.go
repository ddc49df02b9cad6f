package script

import (
	"strconv"
	"strings"
)

const (
	nothing = "-"  // the BYTES of the empty text
	escape  = '\\' // behind which a byte stands as two digits
	digits  = "0123456789abcdef"
)

// wordsOf answers the words of a line.
func wordsOf(line string) []string {
	var words []string
	for _, word := range strings.Split(line, blank) {
		if word != "" {
			words = append(words, word)
		}
	}
	return words
}

// number answers the number that word is, and whether it is one.
func number(word string) (int, bool) {
	n, err := strconv.ParseInt(word, 10, 64)
	// A + ahead, leading zeros and a - ahead of 0 are read all the same: only the number's own text is taken.
	if err != nil || strconv.FormatInt(n, 10) != word {
		return 0, false
	}
	return int(n), true
}

// reading answers what a clock reads by word, and whether it can.
func reading(word string) (uint64, bool) {
	n, err := strconv.ParseUint(word, 10, 64)
	if err != nil || strconv.FormatUint(n, 10) != word {
		return 0, false
	}
	return n, true
}

// textOf answers the text of which word is the BYTES, and whether it is those of one.
func textOf(word string) (string, bool) {
	var text []byte
	if word == nothing {
		return "", true
	}
	for word != "" {
		b, taken := firstByte(word)
		if taken == 0 {
			goto givenUp
		}
		text = append(text, b)
		word = word[taken:]
	}
	return string(text), true
givenUp:
	return "", false
}

// firstByte answers the byte with which the BYTES of a text begin, and how many of word's bytes it takes: none, if word begins otherwise.
func firstByte(word string) (b byte, taken int) {
	if isPlain(word[0]) {
		return word[0], 1
	}
	if word[0] != escape || len(word) < 3 {
		return 0, 0
	}
	high := strings.IndexByte(digits, word[1])
	low := strings.IndexByte(digits, word[2])
	if high < 0 || low < 0 {
		return 0, 0
	}
	return byte(high<<4 | low), 3
}

// bytesOf answers the BYTES of text.
func bytesOf(text string) string {
	if text == "" {
		return nothing
	}
	var b strings.Builder
	for i := range len(text) {
		// A text that looks like those of the empty one would be taken for it.
		if isPlain(text[i]) && text != nothing {
			b.WriteByte(text[i])
		} else {
			b.WriteByte(escape)
			b.WriteByte(digits[text[i]>>4])
			b.WriteByte(digits[text[i]&15])
		}
	}
	return b.String()
}

// isPlain tells whether b stands for itself in BYTES.
func isPlain(b byte) bool {
	return 0x21 <= b && b <= 0x7e && b != escape
}
