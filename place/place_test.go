package place_test

import (
	"math"
	"math/rand"
	"slices"
	"strconv"
	"strings"
	"testing"

	"dovecote/api"
	"dovecote/place"
)

// P13.1: each call answers as the chapter says.

func TestExamples(t *testing.T) {
	if got := place.Walk("a"); got != 98 {
		t.Errorf("Walk(a) = %v", got)
	}
	if got := place.Walk("ab"); got != 99+98i {
		t.Errorf("Walk(ab) = %v", got)
	}
	if n, err := place.Shard("a", 4); n != 2 || err != api.OK {
		t.Errorf("Shard(a, 4) = %d, %d", n, err)
	}
}

// The limits of api are those of the chapter.
func TestLimitsOfAPI(t *testing.T) {
	if api.MaxKey != maxKey || api.MaxShards != maxShards || api.MaxNodes != maxNodes {
		t.Error(api.MaxKey, api.MaxShards, api.MaxNodes)
	}
}

// Walks worked out by hand.
func TestWalks(t *testing.T) {
	for _, c := range []struct {
		key  string
		x, y int
	}{
		{"", 0, 0},
		{"\x00", 1, 0},
		{"\xff", 256, 0},
		{"abc", 2, 99},
		{"abcd", 2, 2},
		{"abcde", 100, 2},
		{"ba", 98, 99},
		{"b\x00\x00", -98, 1},
		{"b\x00\x00\x00", 0, -98},
		{"b\x00\x00\x00\x00", 99, 0},
		{"\xff\x00\x00", -255, 1},
		{"\x00\xff\x00", 0, 256},
		{"\xff\xff\x00\x00", -255, -255},
		{"\xff\xff\xff\xff", 0, 0},
		{"\u00e9", 170, 196}, // c3 a9: bytes, not runes
		{strings.Repeat("\xff\xff\x00\x00", 8), -8 * 255, -8 * 255},
		{strings.Repeat("\x00\x00\xff\xff", 8), 8 * 255, 8 * 255},
		{strings.Repeat("\x00\xff\xff\x00", 8), -8 * 255, 8 * 255},
		{strings.Repeat("\xff\x00\x00\xff", 8), 8 * 255, -8 * 255},
	} {
		walked(t, c.key, c.x, c.y)
	}
}

// Shards worked out by hand, of 1 to 8 of them.
func TestShards(t *testing.T) {
	for _, c := range []struct {
		key  string
		want [maxShards]int
	}{
		{"a", [...]int{0, 0, 0, 2, 4, 0, 0, 6}},                // 294
		{"ab", [...]int{0, 1, 1, 3, 2, 1, 3, 3}},               // 297 + 490
		{"\x00", [...]int{0, 1, 0, 3, 3, 3, 3, 3}},             // 3
		{"\xff", [...]int{0, 0, 0, 0, 3, 0, 5, 0}},             // 768
		{"b\x00\x00", [...]int{0, 1, 2, 3, 1, 5, 5, 7}},        // 5 - 294
		{"b\x00\x00\x00", [...]int{0, 0, 2, 2, 0, 2, 0, 6}},    // -490
		{"\xff\xff\x00\x00", [...]int{0, 0, 0, 0, 0, 0, 4, 0}}, // -2040
		{"\xff\xff\xff\xff", [maxShards]int{}},                 // 0
	} {
		for i, want := range c.want {
			if n, err := place.Shard(c.key, i+1); n != want || err != api.OK {
				t.Errorf("Shard(%q, %d) = %d, %d, want %d", c.key, i+1, n, err, want)
			}
		}
	}
}

// Every byte, alone and many times, ahead of other bytes and behind them.
func TestEveryByte(t *testing.T) {
	for b := range 256 {
		one := string([]byte{byte(b)})
		walked(t, one, b+1, 0)
		for n := range maxKey + 8 {
			many := strings.Repeat(one, n)
			asPlain(t, many)
			asPlain(t, "\x00"+many)
			asPlain(t, many+"\xff")
		}
	}
}

func TestEveryTextOfTwoBytes(t *testing.T) {
	for a := range 256 {
		for b := range 256 {
			asPlain(t, string([]byte{byte(a), byte(b)}))
		}
	}
}

// Each place of a text counts, up to the last one of MaxKey.
func TestEachPlaceCounts(t *testing.T) {
	for n := 1; n <= maxKey; n++ {
		base := strings.Repeat("\x07", n)
		for i := range n {
			for _, b := range []byte{0, 6, 8, 127, 128, 255} {
				key := base[:i] + string([]byte{b}) + base[i+1:]
				asPlain(t, key)
				if place.Walk(key) == place.Walk(base) {
					t.Fatalf("byte %d of %d doesn't count", i, n)
				}
			}
		}
	}
}

// All four quarters of the plane are reached, and what lives there has its shard.
func TestPartsBelowZero(t *testing.T) {
	r := rand.New(rand.NewSource(1))
	seen := map[[2]bool]int{}
	below := 0
	for range 20000 {
		key := chanceText(r, 1+r.Intn(maxKey))
		asPlain(t, key)
		x, y := plainWalk(key)
		seen[[2]bool{x < 0, y < 0}]++
		if 3*x+5*y < 0 {
			below++
		}
	}
	for quarter, n := range seen {
		if n < 1000 {
			t.Errorf("only %d texts at %v", n, quarter)
		}
	}
	if len(seen) != 4 || below < 1000 {
		t.Errorf("%d quarters, %d sums below zero", len(seen), below)
	}
}

// Of a longer text the first MaxKey bytes are walked; it has no shard.
func TestLongTexts(t *testing.T) {
	r := rand.New(rand.NewSource(2))
	for _, n := range []int{maxKey + 1, maxKey + 2, maxKey + 3, maxKey + 4, 2 * maxKey, 255, 256, 257, 1 << 16, 1<<16 + 1, 1 << 20} {
		for range 4 {
			key := chanceText(r, n)
			x, y := plainWalk(key[:maxKey])
			walked(t, key, x, y)
			walked(t, key[:maxKey]+strings.Repeat("\xff", n-maxKey), x, y)
			for shards := 1; shards <= maxShards; shards++ {
				homeless(t, key, shards)
				lives(t, key[:maxKey], shards)
			}
			for _, shards := range noShards() {
				homeless(t, key, shards)
			}
		}
	}
}

func TestShardOfNoByte(t *testing.T) {
	for shards := 1; shards <= maxShards; shards++ {
		homeless(t, "", shards)
	}
	for _, shards := range noShards() {
		homeless(t, "", shards)
	}
}

func TestNoSuchCountOfShards(t *testing.T) {
	for _, shards := range noShards() {
		for b := range 256 {
			homeless(t, string([]byte{byte(b)}), shards)
			homeless(t, strings.Repeat(string([]byte{byte(b)}), maxKey), shards)
		}
	}
}

// Each shard of each count is some key's.
func TestAllShardsAreReached(t *testing.T) {
	for shards := 1; shards <= maxShards; shards++ {
		seen := map[int]int{}
		for i := range 2000 {
			key := "key" + strconv.Itoa(i)
			lives(t, key, shards)
			n, _ := place.Shard(key, shards)
			seen[n]++
		}
		if len(seen) != shards {
			t.Errorf("of %d shards keys live on %v", shards, seen)
		}
	}
}

func TestNodes(t *testing.T) {
	for nodes, row := range [][maxShards]int{
		{0, 0, 0, 0, 0, 0, 0, 0},
		{0, 1, 0, 1, 0, 1, 0, 1},
		{0, 1, 2, 0, 1, 2, 0, 1},
		{0, 1, 2, 3, 0, 1, 2, 3},
	} {
		for shard, want := range row {
			if n, err := place.Node(shard, nodes+1); n != want || err != api.OK {
				t.Errorf("Node(%d, %d) = %d, %d, want %d", shard, nodes+1, n, err, want)
			}
		}
	}
}

func TestNoSuchNode(t *testing.T) {
	wrong := func(shard, nodes int) {
		t.Helper()
		if n, err := place.Node(shard, nodes); n != 0 || err != api.ErrArg {
			t.Errorf("Node(%d, %d) = %d, %d", shard, nodes, n, err)
		}
	}
	far := []int{math.MinInt, math.MinInt + 1, math.MinInt32, -256, -8, -5, -4, -3, -2, -1, 9, 10, 16, 255, 256, 257, 260, 1<<32 + 1, 1<<32 + 4, math.MaxInt32, math.MaxInt - 1, math.MaxInt}
	noShard := append(slices.Clone(far), maxShards)
	noNodes := append(slices.Clone(far), 0, 5, 6, 7, 8)
	for _, shard := range noShard {
		for nodes := 1; nodes <= maxNodes; nodes++ {
			wrong(shard, nodes)
		}
		for _, nodes := range noNodes {
			wrong(shard, nodes)
		}
	}
	for shard := range maxShards {
		for _, nodes := range noNodes {
			wrong(shard, nodes)
		}
	}
}

// Splits worked out by hand.
func TestSplits(t *testing.T) {
	a, b, e := api.Write{Key: "a", Val: "x"}, api.Write{Key: "b", Dead: true}, api.Write{Key: "e"}
	none, long := api.Write{Val: "n"}, api.Write{Key: strings.Repeat("k", maxKey+1)}
	for _, c := range []struct {
		l      writes
		shards int
		want   []writes
		parts  uint8
	}{
		{writes{a, b, none, e}, 4, []writes{nil, {b}, {a, e}, nil}, 6},
		{writes{e, long, b, a}, 4, []writes{nil, {b}, {e, a}, nil}, 6},
		{writes{a, b, e}, 1, []writes{{a, b, e}}, 1},
		{writes{a, b, e}, 2, []writes{{a, e}, {b}}, 3},
		{writes{a, b, e}, 8, []writes{nil, {b}, {e}, nil, nil, nil, {a}, nil}, 70},
		{writes{a}, 4, []writes{nil, nil, {a}, nil}, 4},
		{writes{none, long}, 3, make([]writes, 3), 0},
		{nil, 8, make([]writes, 8), 0},
		{writes{}, 1, make([]writes, 1), 0},
		{writes{a, b, e}, 0, nil, 0},
		{writes{a, b, e}, 9, nil, 0},
	} {
		if got := place.Split(c.l, c.shards); !sameLists(got, c.want) {
			t.Errorf("Split(%v, %d) = %v, want %v", c.l, c.shards, got, c.want)
		}
		if got := place.Parts(c.l, c.shards); got != c.parts {
			t.Errorf("Parts(%v, %d) = %b, want %b", c.l, c.shards, got, c.parts)
		}
	}
}

func TestSplitOfNoWrite(t *testing.T) {
	room := make(writes, 0, 4)
	copy(room[:4], writes{{Key: "a"}, {Key: "b"}, {Key: "c"}, {Key: "d"}})
	for _, l := range []writes{nil, {}, room} {
		for shards := 1; shards <= maxShards; shards++ {
			if lists := place.Split(l, shards); len(lists) != shards {
				t.Errorf("%d lists of %d shards", len(lists), shards)
			}
			parted(t, l, shards)
		}
	}
}

// One write: of each byte, so that each shard of each count has one alone.
func TestSplitOfOneWrite(t *testing.T) {
	for b := range 256 {
		for shards := 1; shards <= maxShards; shards++ {
			w := api.Write{Key: string([]byte{byte(b)}), Val: "v"}
			parted(t, writes{w}, shards)
			n, _ := plainShard(w.Key, shards)
			if place.Parts(writes{w}, shards) != 1<<n {
				t.Fatalf("Parts of %q alone, of %d shards", w.Key, shards)
			}
			if lists := place.Split(writes{w}, shards); len(lists[n]) != 1 || lists[n][0] != w {
				t.Fatalf("Split of %q alone, of %d shards: %v", w.Key, shards, lists)
			}
		}
	}
}

// The same key again and again: each write stays, in its order, with its own value.
func TestSplitOfOneKey(t *testing.T) {
	var l writes
	for i := range 40 {
		l = append(l, api.Write{Key: "a", Val: strconv.Itoa(i), Dead: i%3 == 0})
	}
	l = append(l, l[0], l[0])
	for shards := 1; shards <= maxShards; shards++ {
		parted(t, l, shards)
		n, _ := plainShard("a", shards)
		if got := place.Split(l, shards)[n]; !slices.Equal(got, l) {
			t.Fatalf("of %d shards: %v", shards, got)
		}
	}
}

// Writes with keys that have no shard are in no list, wherever they stand; what is wrong with a write beside its key doesn't count.
func TestSplitOfWrongKeys(t *testing.T) {
	right := writes{{Key: "a"}, {Key: strings.Repeat("k", maxKey)}, {Key: "\x00", Val: strings.Repeat("v", 5000)}, {Key: "b", Val: "v", Dead: true}}
	wrong := writes{{}, {Val: "v"}, {Dead: true}, {Key: strings.Repeat("k", maxKey+1)}, {Key: strings.Repeat("\x00", 1<<16)}}
	for shards := 1; shards <= maxShards; shards++ {
		want := plainSplit(right, shards)
		for _, w := range wrong {
			for i := range len(right) + 1 {
				l := slices.Insert(slices.Clone(right), i, w)
				parted(t, l, shards)
				if got := place.Split(l, shards); !sameLists(got, want) {
					t.Fatalf("with a wrong key at %d of %d shards: %v", i, shards, got)
				}
			}
		}
		parted(t, wrong, shards)
		if bits := place.Parts(wrong, shards); bits != 0 {
			t.Errorf("Parts of wrong keys alone, of %d shards: %b", shards, bits)
		}
	}
}

func TestSplitOfNoSuchShards(t *testing.T) {
	r := rand.New(rand.NewSource(3))
	for _, shards := range noShards() {
		for _, l := range []writes{nil, {{Key: "a"}}, {{}}, chanceWrites(r, 40)} {
			if lists := place.Split(l, shards); len(lists) != 0 {
				t.Errorf("Split into %d: %v", shards, lists)
			}
			if bits := place.Parts(l, shards); bits != 0 {
				t.Errorf("Parts of %d shards: %b", shards, bits)
			}
		}
	}
}

// Each write with a right key is in just one list, in its order, and Parts has just the bits of the lists that aren't empty.
func TestSplitsByChance(t *testing.T) {
	r := rand.New(rand.NewSource(4))
	for i := range 6000 {
		l := chanceWrites(r, r.Intn(20))
		if i%100 == 0 {
			l = chanceWrites(r, 500)
		}
		for shards := 1; shards <= maxShards; shards++ {
			parted(t, l, shards)
			eachOnce(t, l, shards)
		}
	}
}

// eachOnce fails if the lists, each taken from its front, don't make up l's right writes.
func eachOnce(t *testing.T, l writes, shards int) {
	t.Helper()
	lists, bits := place.Split(l, shards), place.Parts(l, shards)
	for n, list := range lists {
		if (bits>>n&1 == 1) != (len(list) > 0) {
			t.Fatalf("shard %d of %d: bits %b, writes %v", n, shards, bits, list)
		}
	}
	if int(bits)>>shards != 0 {
		t.Fatalf("of %d shards: bits %b", shards, bits)
	}
	for _, w := range l {
		n, err := place.Shard(w.Key, shards)
		if err != api.OK {
			continue
		}
		if len(lists[n]) == 0 || lists[n][0] != w {
			t.Fatalf("%v isn't the next of shard %d of %d", w, n, shards)
		}
		lists[n] = lists[n][1:]
	}
	for n, list := range lists {
		if len(list) > 0 {
			t.Fatalf("shard %d of %d has %v left", n, shards, list)
		}
	}
}

func TestSplitOfVeryMany(t *testing.T) {
	r := rand.New(rand.NewSource(5))
	l := chanceWrites(r, 100000)
	for shards := 1; shards <= maxShards; shards++ {
		if !sameLists(place.Split(l, shards), plainSplit(l, shards)) || place.Parts(l, shards) != plainParts(l, shards) {
			t.Errorf("%d writes aren't split into %d as they should", len(l), shards)
		}
	}
}

// P13.2: the walk of two texts one behind the other.

// joined fails if the walk of a and b together isn't a's, turned once for each byte of b, and b's added.
func joined(t *testing.T, a, b string) {
	t.Helper()
	turned := place.Walk(a)
	for range len(b) {
		turned = complex(-imag(turned), real(turned))
	}
	if got, want := place.Walk(a+b), turned+place.Walk(b); got != want {
		t.Fatalf("Walk(%q + %q) = %v, want %v", a, b, got, want)
	}
}

func TestTwoTexts(t *testing.T) {
	r := rand.New(rand.NewSource(6))
	for m := range maxKey + 1 {
		for n := range maxKey + 1 - m {
			for range 20 {
				joined(t, chanceText(r, m), chanceText(r, n))
			}
			for _, one := range []string{"\x00", "\x01", "a", "\x7f", "\x80", "\xff"} {
				joined(t, strings.Repeat(one, m), strings.Repeat(one, n))
				joined(t, strings.Repeat(one, m), chanceText(r, n))
				joined(t, chanceText(r, m), strings.Repeat(one, n))
				joined(t, strings.Repeat("\xff", m), strings.Repeat(one, n))
				joined(t, strings.Repeat("\x00", m), strings.Repeat(one, n))
			}
		}
	}
}

// Every pair of bytes, one behind the other.
func TestTwoTextsOfOneByte(t *testing.T) {
	for a := range 256 {
		for b := range 256 {
			joined(t, string([]byte{byte(a)}), string([]byte{byte(b)}))
		}
	}
}

// Beyond MaxKey bytes together, the walk is that of as much of the second as has room.
func TestTwoTextsBeyondMaxKey(t *testing.T) {
	r := rand.New(rand.NewSource(7))
	for m := range maxKey + 3 {
		for n := maxKey - min(m, maxKey); n < maxKey+3; n++ {
			a, b := chanceText(r, m), chanceText(r, n)
			if m <= maxKey {
				joined(t, a, b[:maxKey-m])
				x, y := plainWalk(a + b[:maxKey-m])
				walked(t, a+b, x, y)
			} else {
				x, y := plainWalk(a[:maxKey])
				walked(t, a+b, x, y)
			}
		}
	}
}

// R4, R7: memory, and one answer.

// What is handed in is not changed, nor the room behind it.
func TestArgumentsAreLeft(t *testing.T) {
	r := rand.New(rand.NewSource(8))
	for range 300 {
		room := chanceWrites(r, 30)
		before := slices.Clone(room)
		for shards := 0; shards <= maxShards+1; shards++ {
			for _, n := range []int{0, 1, 7, 20, 30} {
				lists := place.Split(room[:n], shards)
				place.Parts(room[:n], shards)
				for i := range lists {
					spoil(lists[i])
				}
				if !slices.Equal(room, before) {
					t.Fatalf("of %d shards: what was handed in is %v, was %v", shards, room, before)
				}
			}
		}
	}
}

// What is handed in is not kept.
func TestArgumentsAreNotKept(t *testing.T) {
	r := rand.New(rand.NewSource(9))
	for range 300 {
		l := chanceWrites(r, 20)
		for shards := 1; shards <= maxShards; shards++ {
			own := slices.Clone(l)
			lists := place.Split(own, shards)
			spoil(own)
			if !sameLists(lists, plainSplit(l, shards)) {
				t.Fatalf("of %d shards: the lists have become %v", shards, lists)
			}
		}
	}
}

// spoil writes other things to all of l, and to the room behind it.
func spoil(l writes) {
	l = l[:cap(l)]
	for i := range l {
		l[i] = api.Write{Key: "other", Val: "o", Dead: true}
	}
}

// No list of an answer shares memory with another one, of this answer or of another.
func TestListsAreTheirOwn(t *testing.T) {
	r := rand.New(rand.NewSource(10))
	for range 300 {
		l := chanceWrites(r, 24)
		for shards := 1; shards <= maxShards; shards++ {
			want := plainSplit(l, shards)
			other := place.Split(l, shards)
			for n := range shards {
				lists := place.Split(l, shards)
				rest := copied(lists)
				spoil(lists[n])
				lists[n] = append(lists[n], api.Write{Key: "more"})
				rest[n] = lists[n]
				if !sameLists(lists, rest) {
					t.Fatalf("list %d of %d spoilt others: %v", n, shards, lists)
				}
				clear(lists)
			}
			if !sameLists(other, want) {
				t.Fatalf("of %d shards: %v, was %v", shards, other, want)
			}
			parted(t, l, shards)
		}
	}
}

// Calls in any order answer the same.
func TestOneAnswer(t *testing.T) {
	r := rand.New(rand.NewSource(11))
	keys := []string{"", "a", "ab", "\xff\xff\x00\x00", strings.Repeat("k", maxKey), strings.Repeat("k", maxKey+1)}
	l := chanceWrites(r, 12)
	for range 5000 {
		switch key := keys[r.Intn(len(keys))]; r.Intn(3) {
		case 0:
			x, y := plainWalk(key)
			walked(t, key, x, y)
		case 1:
			lives(t, key, r.Intn(12)-1)
		default:
			parted(t, l, r.Intn(12)-1)
		}
	}
}
