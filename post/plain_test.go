package post_test

import (
	"container/list"
	"math"
	"math/big"
	"math/rand"
	"slices"
	"strconv"
	"testing"

	"dovecote/post"
)

const maxLetters = 200

// line is what the post and the plain one answer.
type line interface {
	Send(s string) bool
	Take(raw int) (string, bool)
	Lose(raw int) bool
	Double(raw int) bool
	All() []string
}

// plain is the document's words a second time: a chain of texts, gone along step by step.
type plain struct {
	chain list.List
}

// placeOf answers raw modulo n, 0 or above, by numbers that have no bounds.
func placeOf(raw, n int) int {
	return int(new(big.Int).Mod(big.NewInt(int64(raw)), big.NewInt(int64(n))).Int64())
}

// link answers the link at raw, nil of none.
func (p *plain) link(raw int) *list.Element {
	if p.chain.Len() == 0 {
		return nil
	}
	e := p.chain.Front()
	for range placeOf(raw, p.chain.Len()) {
		e = e.Next()
	}
	return e
}

func (p *plain) Send(s string) bool {
	if p.chain.Len() == maxLetters {
		return false
	}
	p.chain.PushBack(s)
	return true
}

func (p *plain) Take(raw int) (string, bool) {
	e := p.link(raw)
	if e == nil {
		return "", false
	}
	return p.chain.Remove(e).(string), true
}

func (p *plain) Lose(raw int) bool {
	e := p.link(raw)
	if e == nil {
		return false
	}
	p.chain.Remove(e)
	return true
}

func (p *plain) Double(raw int) bool {
	e := p.link(raw)
	if e == nil || p.chain.Len() == maxLetters {
		return false
	}
	p.chain.PushBack(e.Value)
	return true
}

func (p *plain) All() []string {
	var l []string
	for e := p.chain.Front(); e != nil; e = e.Next() {
		l = append(l, e.Value.(string))
	}
	return l
}

// has asks whether just these texts are under way, in this order.
func has(t *testing.T, p line, want ...string) {
	t.Helper()
	if got := p.All(); !slices.Equal(got, want) {
		t.Fatalf("All: %s, want %s", short(got), short(want))
	}
}

// short answers the texts of l, of long ones and of many the beginning.
func short(l []string) string {
	told := strconv.Itoa(len(l)) + ":"
	for _, s := range l[:min(len(l), 220)] {
		told += " " + strconv.Quote(s[:min(len(s), 20)])
	}
	return told
}

// sent answers a post to which l was sent, and taken by it.
func sent(t *testing.T, l ...string) *post.Post {
	t.Helper()
	p := post.New()
	for i, s := range l {
		if !p.Send(s) {
			t.Fatalf("Send, %d under way: false", i)
		}
	}
	return p
}

// texts answers n texts, no two alike.
func texts(n int) []string {
	var l []string
	for i := range n {
		l = append(l, "t"+strconv.Itoa(i))
	}
	return l
}

// without answers l without what is at i, in new memory.
func without(l []string, i int) []string {
	return slices.Concat(l[:i], l[i+1:])
}

// with answers l with s behind it, in new memory.
func with(l []string, s string) []string {
	return slices.Concat(l, []string{s})
}

// raws answers numbers of all sizes, those around the multiples of n among them.
func raws(n int) []int {
	l := []int{
		math.MinInt, math.MinInt + 1, math.MinInt + n, math.MaxInt, math.MaxInt - 1, math.MaxInt - n,
		math.MinInt32 - 1, math.MinInt32, math.MaxInt32, math.MaxInt32 + 1, math.MaxUint32, math.MaxUint32 + 1, -math.MaxUint32 - 1,
		-1000003, -257, -201, -200, -199, -3, -2, -1, 0, 1, 2, 3, 199, 200, 201, 257, 1000003,
		math.MaxInt / 2, math.MinInt / 2, 1 << 53, 1<<53 + 1, -1<<53 - 1, math.MaxInt/2 + 1,
	}
	for _, times := range []int{-1 << 50, -7, -2, -1, 0, 1, 2, 7, 1 << 50} {
		for _, more := range []int{-2, -1, 0, 1, 2, n / 2} {
			l = append(l, times*n+more)
		}
	}
	return l
}

// some answers a raw by chance, most often a small one.
func some(r *rand.Rand) int {
	switch r.Intn(8) {
	case 0:
		return int(r.Uint64())
	case 1:
		return raws(maxLetters)[r.Intn(len(raws(maxLetters)))]
	}
	return r.Intn(1000) - 500
}
