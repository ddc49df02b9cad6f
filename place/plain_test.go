package place_test

import (
	"math"
	"math/rand"
	"slices"
	"testing"

	"dovecote/api"
	"dovecote/place"
)

// The limits as the chapter says them.
const (
	maxKey    = 32
	maxShards = 8
	maxNodes  = 4
)

type writes = []api.Write

// noShards answers numbers that no count of shards may be.
func noShards() []int {
	l := []int{math.MinInt, math.MinInt + 1, math.MinInt32, -256, -9, -8, -7, -4, -2, -1, 0, 9, 10, 12, 16, 255, 256, math.MaxInt32, math.MaxInt - 1, math.MaxInt}
	for wrap := 1; wrap <= maxShards; wrap++ {
		l = append(l, wrap+1<<8, wrap+1<<16, wrap+1<<32, wrap-1<<8, wrap-1<<32)
	}
	return l
}

// plainWalk tells the walk's parts without walking: a byte is turned once for each byte behind it.
func plainWalk(key string) (x, y int) {
	if len(key) > maxKey {
		key = key[:maxKey]
	}
	for i := range len(key) {
		step := int(key[i]) + 1
		switch (len(key) - 1 - i) % 4 {
		case 0:
			x += step
		case 1:
			y += step
		case 2:
			x -= step
		case 3:
			y -= step
		}
	}
	return x, y
}

// plainShard looks for the one number that is left when shards are taken away, or added, again and again.
func plainShard(key string, shards int) (int, api.Errno) {
	if key == "" || len(key) > maxKey || shards < 1 || shards > maxShards {
		return 0, api.ErrArg
	}
	x, y := plainWalk(key)
	for n := range shards {
		if (3*x+5*y-n)%shards == 0 {
			return n, api.OK
		}
	}
	panic("no number is left")
}

// plainSplit goes through all writes once for each shard.
func plainSplit(l writes, shards int) []writes {
	var lists []writes
	if shards < 1 || shards > maxShards {
		return lists
	}
	for n := range shards {
		var list writes
		for _, w := range l {
			if home, err := plainShard(w.Key, shards); err == api.OK && home == n {
				list = append(list, w)
			}
		}
		lists = append(lists, list)
	}
	return lists
}

// plainParts tells the bits of the lists that aren't empty.
func plainParts(l writes, shards int) uint8 {
	bits, bit := uint8(0), uint8(1)
	for _, list := range plainSplit(l, shards) {
		if len(list) > 0 {
			bits += bit
		}
		bit *= 2
	}
	return bits
}

// walked fails if key's walk doesn't end at x and y; a part that is zero has no sign.
func walked(t *testing.T, key string, x, y int) {
	t.Helper()
	got := place.Walk(key)
	if math.Float64bits(real(got)) != math.Float64bits(float64(x)) || math.Float64bits(imag(got)) != math.Float64bits(float64(y)) {
		t.Fatalf("Walk(%q) = %v, want %d and %d", key, got, x, y)
	}
}

// asPlain fails if the walk of key, or its shard at any count of shards, is another than the plain one.
func asPlain(t *testing.T, key string) {
	t.Helper()
	x, y := plainWalk(key)
	walked(t, key, x, y)
	for shards := -1; shards <= maxShards+2; shards++ {
		lives(t, key, shards)
	}
}

// lives fails if key's shard is another than the plain one.
func lives(t *testing.T, key string, shards int) {
	t.Helper()
	n, err := place.Shard(key, shards)
	if want, wantErr := plainShard(key, shards); n != want || err != wantErr {
		t.Fatalf("Shard(%q, %d) = %d, %d, want %d, %d", key, shards, n, err, want, wantErr)
	}
}

// homeless fails if key has a shard.
func homeless(t *testing.T, key string, shards int) {
	t.Helper()
	if n, err := place.Shard(key, shards); n != 0 || err != api.ErrArg {
		t.Fatalf("Shard(%q, %d) = %d, %d, want 0, %d", key, shards, n, err, api.ErrArg)
	}
}

// parted fails if what l is split into, or its parts, are others than the plain ones.
func parted(t *testing.T, l writes, shards int) {
	t.Helper()
	if got, want := place.Split(l, shards), plainSplit(l, shards); !sameLists(got, want) {
		t.Fatalf("Split(%v, %d) = %v, want %v", l, shards, got, want)
	}
	if got, want := place.Parts(l, shards), plainParts(l, shards); got != want {
		t.Fatalf("Parts(%v, %d) = %b, want %b", l, shards, got, want)
	}
}

// sameLists tells whether there are as many lists, with the same writes; an empty one may be nil or not.
func sameLists(a, b []writes) bool {
	return slices.EqualFunc(a, b, func(c, d writes) bool { return slices.Equal(c, d) })
}

// copied answers lists in memory of their own.
func copied(lists []writes) []writes {
	var out []writes
	for _, l := range lists {
		out = append(out, slices.Clone(l))
	}
	return out
}

// chanceText answers n bytes by chance.
func chanceText(r *rand.Rand, n int) string {
	l := make([]byte, n)
	for i := range l {
		l[i] = byte(r.Intn(256))
	}
	return string(l)
}

// chanceWrites answers n writes, of few and of many keys, some of them wrong, some the same ones again.
func chanceWrites(r *rand.Rand, n int) writes {
	var l writes
	for range n {
		w := api.Write{Key: chanceText(r, 1+r.Intn(maxKey)), Val: chanceText(r, r.Intn(4)), Dead: r.Intn(3) == 0}
		switch r.Intn(6) {
		case 0:
			w.Key = chanceText(r, maxKey+1+r.Intn(3))
		case 1:
			w.Key = ""
		case 2:
			w.Key = string(rune('a' + r.Intn(5)))
		case 3:
			if len(l) > 0 {
				w = l[r.Intn(len(l))]
			}
		}
		l = append(l, w)
	}
	return l
}
