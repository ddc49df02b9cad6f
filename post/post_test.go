package post_test

import (
	"math"
	"math/rand"
	"runtime"
	"slices"
	"strings"
	"testing"

	"dovecote/post"
)

// P16.1: each call answers as the chapter says, in any order.

func TestExamples(t *testing.T) {
	p := sent(t, "a", "b", "c")
	if s, ok := p.Take(-1); s != "c" || !ok {
		t.Errorf("Take(-1): %q %t", s, ok)
	}
	if !p.Double(0) {
		t.Error("Double(0)")
	}
	has(t, p, "a", "b", "a")
	if !p.Lose(4) {
		t.Error("Lose(4)")
	}
	has(t, p, "a", "a")
}

// nothing asks for what a line must answer on which nothing is under way.
func nothing(t *testing.T, p line) {
	t.Helper()
	has(t, p)
	for _, n := range []int{1, 2, 3, maxLetters} {
		for _, raw := range raws(n) {
			if s, ok := p.Take(raw); s != "" || ok {
				t.Fatalf("Take(%d) of none: %q %t", raw, s, ok)
			}
			if p.Lose(raw) {
				t.Fatalf("Lose(%d) of none", raw)
			}
			if p.Double(raw) {
				t.Fatalf("Double(%d) of none", raw)
			}
			has(t, p)
		}
	}
}

func TestNilPost(t *testing.T) {
	var p *post.Post
	nothing(t, p)
	for _, s := range []string{"", "a", "\x00", strings.Repeat("x", 100000)} {
		for range maxLetters + 1 {
			if p.Send(s) {
				t.Fatalf("Send(%.10q)", s)
			}
		}
		nothing(t, p)
	}
	// What was said to it is said to no other one.
	nothing(t, post.New())
}

func TestNew(t *testing.T) {
	if post.New() == nil {
		t.Fatal("New answers nil")
	}
	nothing(t, post.New())
	// Nor does what is refused of none change anything.
	p := post.New()
	nothing(t, p)
	if !p.Send("a") {
		t.Error("Send")
	}
	has(t, p, "a")
}

// TestUnmadePost: what a post answers that New hasn't made isn't said, but no call panics.
func TestUnmadePost(t *testing.T) {
	p := &post.Post{}
	for _, raw := range raws(1) {
		p.Take(raw)
		p.Lose(raw)
		p.Double(raw)
		p.All()
		p.Send("a")
	}
}

// TestSend: behind all others, till there are as many as may be.
func TestSend(t *testing.T) {
	p, want := post.New(), []string(nil)
	for _, s := range texts(maxLetters) {
		if !p.Send(s) {
			t.Fatalf("Send, %d under way: false", len(want))
		}
		want = append(want, s)
		has(t, p, want...)
	}
	for range 3 {
		if p.Send("over") || p.Send("") {
			t.Fatal("Send, all under way: true")
		}
		has(t, p, want...)
	}
}

// TestRaw: each raw picks its place, be few or many under way, for each of the calls.
func TestRaw(t *testing.T) {
	for _, n := range []int{1, 2, 3, 4, 5, 7, 8, 16, 64, 100, 127, 128, 198, 199, 200} {
		l := texts(n)
		for _, raw := range raws(n) {
			place := placeOf(raw, n)
			p := sent(t, l...)
			if s, ok := p.Take(raw); s != l[place] || !ok {
				t.Fatalf("Take(%d) of %d: %q %t, want %q", raw, n, s, ok, l[place])
			}
			has(t, p, without(l, place)...)
			p = sent(t, l...)
			if !p.Lose(raw) {
				t.Fatalf("Lose(%d) of %d: false", raw, n)
			}
			has(t, p, without(l, place)...)
			p = sent(t, l...)
			if ok := p.Double(raw); ok != (n < maxLetters) {
				t.Fatalf("Double(%d) of %d: %t", raw, n, ok)
			}
			if n < maxLetters {
				has(t, p, with(l, l[place])...)
			} else {
				has(t, p, l...)
			}
		}
	}
}

// TestEachPlace: of each number that may be under way, each place once, told from both ends.
func TestEachPlace(t *testing.T) {
	for n := 1; n <= maxLetters; n++ {
		l := texts(n)
		for place := range n {
			for _, raw := range []int{place, place - n} {
				p := sent(t, l...)
				if s, ok := p.Take(raw); s != l[place] || !ok {
					t.Fatalf("Take(%d) of %d: %q %t, want %q", raw, n, s, ok, l[place])
				}
			}
		}
	}
}

// TestOneUnderWay: any raw picks it.
func TestOneUnderWay(t *testing.T) {
	for _, n := range []int{1, 2, 3, 10, maxLetters} {
		for _, raw := range raws(n) {
			p := sent(t, "a")
			if !p.Double(raw) {
				t.Fatalf("Double(%d)", raw)
			}
			has(t, p, "a", "a")
			if !p.Lose(raw) {
				t.Fatalf("Lose(%d)", raw)
			}
			has(t, p, "a")
			if s, ok := p.Take(raw); s != "a" || !ok {
				t.Fatalf("Take(%d): %q %t", raw, s, ok)
			}
			if s, ok := p.Take(raw); s != "" || ok {
				t.Fatalf("second Take(%d): %q %t", raw, s, ok)
			}
			nothing(t, p)
		}
	}
}

// TestNearFull: one less than may be, as many, and one more that is sent or doubled.
func TestNearFull(t *testing.T) {
	l := texts(maxLetters - 1)
	for _, last := range []func(p line) bool{
		func(p line) bool { return p.Send("t3") },
		func(p line) bool { return p.Double(3) },
		func(p line) bool { return p.Double(3 - len(l)) },
		func(p line) bool { return p.Double(3 + 1000*len(l)) },
	} {
		p, full := sent(t, l...), with(l, "t3")
		if !last(p) {
			t.Fatal("the last one is refused")
		}
		has(t, p, full...)
		for _, raw := range raws(maxLetters) {
			if p.Double(raw) || p.Send("over") {
				t.Fatalf("one too many is taken, raw %d", raw)
			}
		}
		has(t, p, full...)
		// Each that goes makes room for one, not for two.
		if s, ok := p.Take(maxLetters + 5); s != "t5" || !ok {
			t.Fatalf("Take: %q %t", s, ok)
		}
		if !p.Double(0) || p.Double(0) || p.Send("over") {
			t.Fatal("Double behind Take")
		}
		full = with(without(full, 5), "t0")
		has(t, p, full...)
		if !p.Lose(-1) || !p.Send("new") || p.Send("over") || p.Double(1) {
			t.Fatal("Send behind Lose")
		}
		has(t, p, with(without(full, maxLetters-1), "new")...)
	}
}

// TestFullByDoubling: as many as may be out of one text.
func TestFullByDoubling(t *testing.T) {
	p := sent(t, "a")
	for n := 1; n < maxLetters; n++ {
		if !p.Double(n * n) {
			t.Fatalf("Double, %d under way: false", n)
		}
	}
	if p.Double(0) || p.Send("a") {
		t.Error("one too many")
	}
	has(t, p, slices.Repeat([]string{"a"}, maxLetters)...)
}

// TestFullStaysFull: what is refused takes no room, and doesn't come later.
func TestFullStaysFull(t *testing.T) {
	p := sent(t, texts(maxLetters)...)
	for range 10 * maxLetters {
		p.Send("over")
		p.Double(7)
	}
	for _, want := range texts(maxLetters) {
		if s, ok := p.Take(0); s != want || !ok {
			t.Fatalf("Take: %q %t, want %q", s, ok, want)
		}
	}
	nothing(t, p)
}

// TestSameText: a text that is sent twice is under way twice, and one place goes at a time.
func TestSameText(t *testing.T) {
	p := sent(t, "a", "b", "a", "a", "c")
	if s, ok := p.Take(2); s != "a" || !ok {
		t.Errorf("Take(2): %q %t", s, ok)
	}
	has(t, p, "a", "b", "a", "c")
	if !p.Lose(0) {
		t.Error("Lose(0)")
	}
	has(t, p, "b", "a", "c")
	if !p.Double(1) || !p.Send("a") {
		t.Error("Double, Send")
	}
	has(t, p, "b", "a", "c", "a", "a")
	if !p.Lose(3) {
		t.Error("Lose(3)")
	}
	has(t, p, "b", "a", "c", "a")
	for _, want := range []string{"b", "a", "c", "a"} {
		if s, ok := p.Take(0); s != want || !ok {
			t.Errorf("Take(0): %q %t, want %q", s, ok, want)
		}
	}
	nothing(t, p)
}

// TestTextsOfNoByte: they are under way as others are.
func TestTextsOfNoByte(t *testing.T) {
	p := sent(t, "", "a", "")
	has(t, p, "", "a", "")
	if !p.Double(-1) {
		t.Error("Double(-1)")
	}
	has(t, p, "", "a", "", "")
	if s, ok := p.Take(0); s != "" || !ok {
		t.Errorf("Take(0): %q %t", s, ok)
	}
	has(t, p, "a", "", "")
	if !p.Lose(1) {
		t.Error("Lose(1)")
	}
	has(t, p, "a", "")
	if s, ok := p.Take(1); s != "" || !ok {
		t.Errorf("Take(1): %q %t", s, ok)
	}
	has(t, p, "a")
	full := sent(t, make([]string, maxLetters)...)
	if full.Send("") || full.Double(0) {
		t.Error("one too many")
	}
	has(t, full, make([]string, maxLetters)...)
	for range maxLetters {
		if s, ok := full.Take(3); s != "" || !ok {
			t.Fatalf("Take: %q %t", s, ok)
		}
	}
	nothing(t, full)
}

// TestAnyText: of any bytes, and long ones.
func TestAnyText(t *testing.T) {
	l := []string{"\x00", "\xff\xfe", "\n", " ", "é", "\xc3", "日本", "a\x00b", "\\", strings.Repeat("ab", 1<<20), strings.Repeat("ab", 1<<20) + "c"}
	for b := range 256 {
		l = append(l, string([]byte{byte(b), 'x', byte(255 - b)}))
	}
	for part := range slices.Chunk(l, maxLetters/2) {
		p := sent(t, part...)
		has(t, p, part...)
		for i := range part {
			if !p.Double(i) {
				t.Fatalf("Double(%d)", i)
			}
		}
		has(t, p, slices.Concat(part, part)...)
		for _, want := range slices.Concat(part, part) {
			if s, ok := p.Take(0); s != want || !ok {
				t.Fatalf("Take: %.20q %t, want %.20q", s, ok, want)
			}
		}
	}
}

// TestEmptiedAndFilled: a line that is emptied, from any end, and filled again is as a new one.
func TestEmptiedAndFilled(t *testing.T) {
	p := post.New()
	for round, n := range []int{1, maxLetters, 2, maxLetters - 1, 1, 50, maxLetters, maxLetters, 3} {
		l := texts(n + round)[round:]
		for _, s := range l {
			if !p.Send(s) {
				t.Fatalf("round %d: Send(%q)", round, s)
			}
		}
		has(t, p, l...)
		for len(l) > 0 {
			raw := []int{0, -1, len(l) / 2, 7 * len(l) / 3}[round%4]
			place := placeOf(raw, len(l))
			if round%3 == 0 {
				if !p.Lose(raw) {
					t.Fatalf("round %d: Lose(%d)", round, raw)
				}
			} else if s, ok := p.Take(raw); s != l[place] || !ok {
				t.Fatalf("round %d: Take(%d): %q %t, want %q", round, raw, s, ok, l[place])
			}
			l = without(l, place)
			has(t, p, l...)
		}
		nothing(t, p)
	}
}

// TestLongUse: however many have gone through, each is as the first.
func TestLongUse(t *testing.T) {
	p := sent(t, "a", "b", "c")
	for i := range 1000000 {
		want := []string{"a", "b", "c"}[i%3]
		if !p.Double(0) {
			t.Fatal("Double", i)
		}
		if s, ok := p.Take(0); s != want || !ok {
			t.Fatalf("Take, %d: %q %t, want %q", i, s, ok, want)
		}
	}
	has(t, p, "b", "c", "a")
}

// TestPostsApart: what is done with one is not seen in another.
func TestPostsApart(t *testing.T) {
	a, b := post.New(), post.New()
	for i, s := range texts(maxLetters) {
		if !a.Send(s) || i < 3 && !b.Send("b"+s) {
			t.Fatal("Send", i)
		}
	}
	has(t, a, texts(maxLetters)...)
	has(t, b, "bt0", "bt1", "bt2")
	if a.Send("over") || a.Double(0) || !b.Send("x") || !b.Double(0) {
		t.Error("one is full, the other isn't")
	}
	has(t, b, "bt0", "bt1", "bt2", "x", "bt0")
	if s, ok := b.Take(1); s != "bt1" || !ok {
		t.Errorf("Take(1): %q %t", s, ok)
	}
	has(t, a, texts(maxLetters)...)
	for a.Lose(0) {
	}
	nothing(t, a)
	has(t, b, "bt0", "bt2", "x", "bt0")
	for b.Lose(0) {
	}
	a.Send("y")
	nothing(t, b)
	has(t, a, "y")
}

// TestPostsByTurns: two that are called by turns answer what each answers alone.
func TestPostsByTurns(t *testing.T) {
	for seed := range 50 {
		r := rand.New(rand.NewSource(int64(seed)))
		posts, plains := []*post.Post{post.New(), post.New()}, []*plain{{}, {}}
		for range 400 {
			i := r.Intn(2)
			do(t, posts[i], plains[i], call(r))
			has(t, posts[0], plains[0].All()...)
			has(t, posts[1], plains[1].All()...)
		}
	}
}

// spoil writes over l and the room behind it.
func spoil(l []string) {
	whole := l[:cap(l)]
	for i := range whole {
		whole[i] = "spoilt"
	}
}

// TestMemoryOfAnswers: what is done with a list that was answered changes no other answer, and what is done with the post changes no such list.
func TestMemoryOfAnswers(t *testing.T) {
	for _, n := range []int{0, 1, 2, 3, 4, 5, 8, 9, 100, 199, 200} {
		l := texts(n)
		p := sent(t, l...)
		for range 3 {
			got := p.All()
			spoil(got)
			has(t, p, l...)
			_ = append(got, "behind")
			_ = append(got[:0], "ahead")
			has(t, p, l...)
		}
		first, second, kept := p.All(), p.All(), p.All()
		spoil(first)
		_ = append(second, "behind")
		if !slices.Equal(second, l) || !slices.Equal(kept, l) {
			t.Fatalf("two answers share memory: %s", short(second))
		}
		p.Lose(n / 2)
		p.Send("new")
		p.Send("newer")
		p.Double(0)
		p.Take(0)
		for p.Lose(0) {
		}
		for range maxLetters {
			p.Send("other")
		}
		if !slices.Equal(kept, l) {
			t.Fatalf("what was done with the post shows in a list: %s", short(kept))
		}
		spoil(kept)
		has(t, p, slices.Repeat([]string{"other"}, maxLetters)...)
	}
}

// TestMemoryBehindTheEnd: what is appended to a list is not what is sent next, nor the other way round.
func TestMemoryBehindTheEnd(t *testing.T) {
	for n := range maxLetters {
		p := sent(t, texts(n)...)
		before := p.All()
		longer := append(before, "mine")
		p.Send("sent")
		after := p.All()
		if longer[n] != "mine" || after[n] != "sent" {
			t.Fatalf("behind %d: %q and %q", n, longer[n], after[n])
		}
		p.Lose(n)
		p.Send("again")
		if after[n] != "sent" || !slices.Equal(before, texts(n)) {
			t.Fatalf("behind %d: %q", n, after[n])
		}
	}
}

// TestMemoryOfArguments: the text is what it was when it was sent.
func TestMemoryOfArguments(t *testing.T) {
	bytes := []byte("abc")
	p := sent(t, string(bytes), string(bytes[:1]))
	copy(bytes, "xyz")
	has(t, p, "abc", "a")
	if s, ok := p.Take(0); s != "abc" || !ok {
		t.Errorf("Take: %q %t", s, ok)
	}
}

// inUse answers how many bytes are in use.
func inUse() int {
	runtime.GC()
	var m runtime.MemStats
	runtime.ReadMemStats(&m)
	return int(m.HeapAlloc)
}

// TestGoneIsGone: texts that are under way no more aren't kept.
func TestGoneIsGone(t *testing.T) {
	const size = 1 << 20
	before := inUse()
	p := post.New()
	for range 64 {
		p.Send(strings.Repeat("x", size))
	}
	if n := inUse() - before; n < 60*size {
		t.Errorf("%d bytes in use while the texts are under way", n)
	}
	for i := range 64 {
		if i%2 == 0 {
			p.Lose(i)
		} else {
			p.Take(-i)
		}
	}
	if n := inUse() - before; n > 4*size {
		t.Errorf("%d bytes in use behind their end", n)
	}
	nothing(t, p)
}

// TestAskingChangesNothing: All may be asked again.
func TestAskingChangesNothing(t *testing.T) {
	p := sent(t, "b", "a", "", "b")
	for range 5 {
		has(t, p, "b", "a", "", "b")
	}
}

// action is a call that may change a line: what it answers.
type action func(line) (string, bool)

// sending, taking, losing and doubling answer calls of Send, Take, Lose and Double.
func sending(s string) action {
	return func(x line) (string, bool) { return "", x.Send(s) }
}

func taking(raw int) action {
	return func(x line) (string, bool) { return x.Take(raw) }
}

func losing(raw int) action {
	return func(x line) (string, bool) { return "", x.Lose(raw) }
}

func doubling(raw int) action {
	return func(x line) (string, bool) { return "", x.Double(raw) }
}

// do makes the call of both, which must answer the same.
func do(t *testing.T, x, p line, call action) {
	t.Helper()
	s, ok := call(x)
	want, wantOk := call(p)
	if s != want || ok != wantOk {
		t.Fatalf("%q %t, want %q %t", s, ok, want, wantOk)
	}
}

// TestEveryCall makes all sequences of up to six out of some calls.
func TestEveryCall(t *testing.T) {
	calls := []action{
		sending("a"), sending("b"), sending(""),
		taking(0), taking(-1), taking(math.MaxInt), losing(1), losing(math.MinInt), doubling(0), doubling(-2),
	}
	for length, all := 0, 1; length <= 6; length, all = length+1, all*len(calls) {
		for n := range all {
			x, p := post.New(), &plain{}
			for i, rest := 0, n; i < length; i, rest = i+1, rest/len(calls) {
				do(t, x, p, calls[rest%len(calls)])
			}
			has(t, x, p.All()...)
		}
	}
}

// TestEveryCallAtTheEnd makes all sequences of up to four out of some calls where the line is full, or nearly so.
func TestEveryCallAtTheEnd(t *testing.T) {
	calls := []action{sending("a"), sending(""), taking(0), taking(-1), losing(math.MinInt), doubling(math.MaxInt), doubling(-1)}
	for under := maxLetters - 2; under <= maxLetters; under++ {
		for length, all := 0, 1; length <= 4; length, all = length+1, all*len(calls) {
			for n := range all {
				x, p := sent(t, texts(under)...), &plain{}
				for _, s := range texts(under) {
					p.Send(s)
				}
				for i, rest := 0, n; i < length; i, rest = i+1, rest/len(calls) {
					do(t, x, p, calls[rest%len(calls)])
				}
				has(t, x, p.All()...)
			}
		}
	}
}

// call answers a call by chance.
func call(r *rand.Rand) action {
	switch r.Intn(5) {
	case 0:
		return taking(some(r))
	case 1:
		return losing(some(r))
	case 2:
		return doubling(some(r))
	}
	return sending(texts(9)[r.Intn(9)][r.Intn(3):])
}

// TestByChance makes calls of all kinds, on lines that grow, that stay as they are and that shrink.
func TestByChance(t *testing.T) {
	for seed := range 200 {
		r := rand.New(rand.NewSource(int64(seed)))
		x, p := post.New(), &plain{}
		more := seed % 4
		for i := range 600 {
			do(t, x, p, call(r))
			switch {
			case more == 0 && i%3 == 0:
				do(t, x, p, taking(some(r)))
			case more == 2 && i%3 == 0, more == 3:
				do(t, x, p, doubling(some(r)))
			}
			has(t, x, p.All()...)
		}
	}
}

// TestOneAnswer: the same calls answer the same in each new post.
func TestOneAnswer(t *testing.T) {
	for seed := range 50 {
		one, two := post.New(), post.New()
		r, again := rand.New(rand.NewSource(int64(seed))), rand.New(rand.NewSource(int64(seed)))
		for range 300 {
			s, ok := call(r)(one)
			other, otherOk := call(again)(two)
			if s != other || ok != otherOk {
				t.Fatalf("seed %d: %q %t and %q %t", seed, s, ok, other, otherOk)
			}
			has(t, one, two.All()...)
		}
	}
}

// P16.2: what is taken was sent, and as often as it was sent and doubled at most.

// counts answers how often each text is in l.
func counts(l []string) map[string]int {
	m := map[string]int{}
	for _, s := range l {
		m[s]++
	}
	return m
}

// doubled answers which text a doubling has put behind all of before, whether it was taken or refused.
func doubled(t *testing.T, p line, raw int) (string, bool) {
	t.Helper()
	before := p.All()
	if !p.Double(raw) {
		has(t, p, before...)
		return "", false
	}
	after := p.All()
	if len(after) != len(before)+1 || !slices.Contains(before, after[len(before)]) {
		t.Fatalf("Double(%d) of %s: %s", raw, short(before), short(after))
	}
	return after[len(before)], true
}

// lost answers which text a loss has taken away.
func lost(t *testing.T, p line, raw int) (string, bool) {
	t.Helper()
	before := counts(p.All())
	if !p.Lose(raw) {
		return "", false
	}
	after := counts(p.All())
	for s, n := range before {
		if after[s] < n {
			return s, true
		}
	}
	t.Fatalf("Lose(%d): nothing is lost", raw)
	return "", false
}

// TestAccount: of each text there is taken, lost and under way just as much as was sent and doubled.
func TestAccount(t *testing.T) {
	for seed := range 300 {
		r := rand.New(rand.NewSource(int64(seed)))
		p := post.New()
		in, out, taken := map[string]int{}, map[string]int{}, map[string]int{}
		for i := range 500 {
			switch n := r.Intn(10); {
			case n < 3+seed%3:
				// Some of them come once only.
				s := texts(i + 1)[i-r.Intn(min(i+1, 3))]
				if p.Send(s) {
					in[s]++
				}
			case n < 6:
				if s, ok := doubled(t, p, some(r)); ok {
					in[s]++
				}
			case n < 8:
				if s, ok := lost(t, p, some(r)); ok {
					out[s]++
				}
			default:
				if s, ok := p.Take(some(r)); ok {
					taken[s]++
					out[s]++
				}
			}
			for s, n := range taken {
				if n > in[s] {
					t.Fatalf("seed %d: %q is taken %d times, sent and doubled %d times", seed, s, n, in[s])
				}
			}
		}
		under := counts(p.All())
		for s, n := range in {
			if out[s]+under[s] != n {
				t.Fatalf("seed %d: %q: %d came, %d went, %d are under way", seed, s, n, out[s], under[s])
			}
		}
		for s := range under {
			if in[s] == 0 {
				t.Fatalf("seed %d: %q is under way, but never came", seed, s)
			}
		}
	}
}

// TestTakenOnce: what is sent once is taken once, whatever the order, and what is lost or refused never.
func TestTakenOnce(t *testing.T) {
	for seed := range 100 {
		r := rand.New(rand.NewSource(int64(seed)))
		p := sent(t, texts(maxLetters)...)
		if p.Send("refused") || p.Double(some(r)) {
			t.Fatal("one too many")
		}
		left := counts(texts(maxLetters))
		for range maxLetters / 4 {
			s, ok := lost(t, p, some(r))
			if !ok || left[s] != 1 {
				t.Fatalf("Lose: %q %t", s, ok)
			}
			delete(left, s)
		}
		for range maxLetters - maxLetters/4 {
			s, ok := p.Take(some(r))
			if !ok || left[s] != 1 {
				t.Fatalf("Take: %q %t", s, ok)
			}
			delete(left, s)
		}
		if len(left) != 0 {
			t.Fatalf("never taken: %v", left)
		}
		nothing(t, p)
	}
}

// TestTakenAsOftenAsDoubled: a text that is sent once and doubled n times is taken n+1 times, and no more.
func TestTakenAsOftenAsDoubled(t *testing.T) {
	for n := range maxLetters - 2 {
		p := sent(t, "other", "a")
		for i := range n {
			// The first one, or one that was doubled itself.
			if !p.Double(1 + i/2) {
				t.Fatal("Double", i)
			}
		}
		for i := range n + 1 {
			if s, ok := p.Take(-1); s != "a" || !ok {
				t.Fatalf("Take %d of %d: %q %t", i, n, s, ok)
			}
		}
		has(t, p, "other")
	}
}
