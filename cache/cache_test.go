package cache_test

import (
	"crypto/sha256"
	"math"
	"runtime"
	"slices"
	"strings"
	"testing"

	"mempool/api"
	"mempool/cache"
)

// plain is what the chapter says of a cache, kept in a plain slice: the least recently used key first.
type plain struct {
	size int
	keys []api.Key
}

func (p *plain) push(k api.Key) bool {
	added := !p.remove(k)
	p.keys = append(p.keys, k)
	if len(p.keys) > p.size {
		p.keys = slices.Delete(p.keys, 0, 1)
	}
	return added
}

func (p *plain) remove(k api.Key) bool {
	i := slices.Index(p.keys, k)
	if i >= 0 {
		p.keys = slices.Delete(p.keys, i, i+1)
	}
	return i >= 0
}

// both is a cache, and beside it what it should be.
type both struct {
	cache *cache.Cache
	plain plain
}

// fresh returns an empty cache that keeps size keys.
func fresh(size int) *both {
	return &both{cache: cache.New(size), plain: plain{size: size}}
}

// filled returns a cache that keeps size keys, behind Push of each key of l.
func filled(t *testing.T, size int, l []api.Key) *both {
	t.Helper()
	b := fresh(size)
	for _, k := range l {
		b.push(t, k)
	}
	return b
}

func (b *both) push(t *testing.T, k api.Key) {
	t.Helper()
	if got, want := b.cache.Push(k), b.plain.push(k); got != want {
		t.Fatalf("Push(%s) = %v; want %v", name(k), got, want)
	}
}

func (b *both) remove(t *testing.T, k api.Key) {
	t.Helper()
	if got, want := b.cache.Remove(k), b.plain.remove(k); got != want {
		t.Fatalf("Remove(%s) = %v; want %v", name(k), got, want)
	}
}

func (b *both) has(t *testing.T, k api.Key) {
	t.Helper()
	if got, want := b.cache.Has(k), slices.Contains(b.plain.keys, k); got != want {
		t.Fatalf("Has(%s) = %v; want %v", name(k), got, want)
	}
}

func (b *both) reset() {
	b.cache.Reset()
	b.plain.keys = nil
}

// check compares Keys and Len with what they should be, twice, because neither may change the cache.
func (b *both) check(t *testing.T) {
	t.Helper()
	for range 2 {
		if got := b.cache.Keys(); !slices.Equal(got, b.plain.keys) {
			t.Fatalf("Keys = %s; want %s", names(got), names(b.plain.keys))
		}
		if got, want := b.cache.Len(), len(b.plain.keys); got != want {
			t.Fatalf("Len = %d; want %d", got, want)
		}
	}
}

// step carries out the operation k of a row: for each key of l its Push, then for each its Remove, for each its Has, and at last Reset.
func (b *both) step(t *testing.T, l []api.Key, k int) {
	t.Helper()
	n := len(l)
	switch {
	case k < n:
		b.push(t, l[k])
	case k < 2*n:
		b.remove(t, l[k-n])
	case k < 3*n:
		b.has(t, l[k-2*n])
	default:
		b.reset()
	}
}

// letter returns the key that stands for a letter in the tests that write operations as a text.
func letter(c byte) api.Key {
	return api.Key{31: c}
}

// letters returns the keys of the letters of s.
func letters(s string) []api.Key {
	var l []api.Key
	for i := range len(s) {
		l = append(l, letter(s[i]))
	}
	return l
}

// digests returns n different keys without a pattern, others than those of letters.
func digests(n int) []api.Key {
	var l []api.Key
	for i := range n {
		l = append(l, sha256.Sum256([]byte{byte(i), byte(i >> 8), byte(i >> 16)}))
	}
	return l
}

// name returns the letter of a key, or the beginning of its hexadecimal digits.
func name(k api.Key) string {
	if k == letter(k[31]) && k[31] > ' ' && k[31] < 127 {
		return string(rune(k[31]))
	}
	const digits = "0123456789abcdef"
	var s strings.Builder
	for _, c := range k[:4] {
		s.WriteByte(digits[c>>4])
		s.WriteByte(digits[c&15])
	}
	return "<" + s.String() + ">"
}

// names returns the names of the first few keys of l.
func names(l []api.Key) string {
	var s strings.Builder
	for _, k := range l[:min(len(l), 20)] {
		s.WriteString(name(k))
	}
	if len(l) > 20 {
		s.WriteString("..")
	}
	return "[" + s.String() + "]"
}

// run carries out operations and returns their results, + for true and . for false: a letter is a Push, one behind - a Remove, one behind ? a Has, and ! is Reset, which has no result.
func run(c *cache.Cache, ops string) string {
	var results strings.Builder
	for _, op := range strings.Fields(ops) {
		if op == "!" {
			c.Reset()
			continue
		}
		ok, k := false, letter(op[len(op)-1])
		switch op[0] {
		case '-':
			ok = c.Remove(k)
		case '?':
			ok = c.Has(k)
		default:
			ok = c.Push(k)
		}
		if ok {
			results.WriteByte('+')
		} else {
			results.WriteByte('.')
		}
	}
	return results.String()
}

// written is a cache of a size, operations, their results, and the keys behind them.
type written struct {
	size               int
	ops, results, keys string
}

func checkWritten(t *testing.T, l []written) {
	t.Helper()
	for _, x := range l {
		c := cache.New(x.size)
		if got := run(c, x.ops); got != x.results {
			t.Errorf("size %d: the results of %s are %s; want %s", x.size, x.ops, got, x.results)
		}
		if got := c.Keys(); !slices.Equal(got, letters(x.keys)) || c.Len() != len(x.keys) {
			t.Errorf("size %d: behind %s Keys = %s, Len = %d; want %s", x.size, x.ops, names(got), c.Len(), x.keys)
		}
	}
}

// random returns a function that returns a number below n at each call, always the same ones for a seed.
func random(seed int) func(n int) int {
	x := uint64(seed)
	return func(n int) int {
		x = x*6364136223846793005 + 1442695040888963407
		return int(x>>33) % n
	}
}

// The examples of the chapter.
func TestExamples(t *testing.T) {
	checkWritten(t, []written{
		{2, "a b a c", "++.+", "ac"},
		{2, "a b ?a c ?a", "++++.", "bc"},
		{0, "a a", "++", ""},
	})
}

// P8.1: every size as it counts, and the keys that such a cache keeps.
func TestSizes(t *testing.T) {
	all := digests(api.MaxCache + 50)
	for _, x := range []struct{ size, counts int }{
		{math.MinInt, 0}, {math.MinInt + 1, 0}, {math.MinInt32 - 1, 0}, {math.MinInt32, 0}, {-1 << 32, 0}, {1 - 1<<32, 0},
		{-api.MaxCache - 1, 0}, {-api.MaxCache, 0}, {-2, 0}, {-1, 0},
		{0, 0}, {1, 1}, {2, 2}, {3, 3}, {200, 200}, {255, 255}, {256, 256}, {257, 257},
		{api.MaxCache / 2, api.MaxCache / 2}, {api.MaxCache - 1, api.MaxCache - 1}, {api.MaxCache, api.MaxCache},
		{api.MaxCache + 1, api.MaxCache}, {api.MaxCache + 2, api.MaxCache}, {2 * api.MaxCache, api.MaxCache}, {1 << 16, api.MaxCache},
		{math.MaxInt32, api.MaxCache}, {math.MaxInt32 + 1, api.MaxCache}, {1 << 32, api.MaxCache}, {1<<32 + 1, api.MaxCache},
		{math.MaxInt - 1, api.MaxCache}, {math.MaxInt, api.MaxCache},
	} {
		c := cache.New(x.size)
		if len(c.Keys()) != 0 || c.Len() != 0 || c.Has(all[0]) || c.Has(api.Key{}) {
			t.Errorf("New(%d) is not empty: %s", x.size, names(c.Keys()))
		}
		for i, k := range all {
			if !c.Push(k) {
				t.Errorf("size %d: Push of the new key %d is false", x.size, i)
			}
			if got, want := c.Len(), min(i+1, x.counts); got != want {
				t.Fatalf("size %d: Len behind %d keys = %d; want %d", x.size, i+1, got, want)
			}
		}
		if got, want := c.Keys(), all[len(all)-x.counts:]; !slices.Equal(got, want) {
			t.Errorf("size %d: Keys = %s; want %s", x.size, names(got), names(want))
		}
	}
}

// P8.2: in a cache that has room.
func TestPushWithRoom(t *testing.T) {
	checkWritten(t, []written{
		{5, "a", "+", "a"},
		{5, "a b c", "+++", "abc"},
		{5, "c b a", "+++", "cba"},
		{5, "a a", "+.", "a"},
		{5, "a b c a", "+++.", "bca"},
		{5, "a b c b", "+++.", "acb"},
		{5, "a b c c", "+++.", "abc"},
		{5, "a b c b a b c", "+++....", "abc"},
		{5, "a b c -a a", "+++++", "bca"},
		{5, "a b c -b b", "+++++", "acb"},
		{5, "a b c -c c", "+++++", "abc"},
		{5, "a b c -b b b", "+++++.", "acb"},
	})
}

// P8.2: in a full cache.
func TestPushFull(t *testing.T) {
	checkWritten(t, []written{
		{3, "a b c d", "++++", "bcd"},
		{3, "a b c d e f g", "+++++++", "efg"},
		{3, "a b c a", "+++.", "bca"},
		{3, "a b c b", "+++.", "acb"},
		{3, "a b c c", "+++.", "abc"},
		{3, "a b c a d", "+++.+", "cad"},
		{3, "a b c b d", "+++.+", "cbd"},
		{3, "a b c c d", "+++.+", "bcd"},
		{3, "a b c d a", "+++++", "cda"},
		{3, "a b c d b", "++++.", "cdb"},
		{3, "a b c d a b c d", "++++++++", "bcd"},
		{3, "a b c -a d", "+++++", "bcd"},
		{3, "a b c -b d e", "++++++", "cde"},
		{3, "a b c -c c d", "++++++", "bcd"},
		{3, "a b c -a a d", "++++++", "cad"},
		{3, "a b c d -b a", "++++++", "cda"},
		{3, "a b c d -a e", "++++.+", "cde"},
		{2, "a b c a b c", "++++++", "bc"},
		{2, "a b a b c", "++..+", "bc"},
		{2, "a b b a c", "++..+", "ac"},
	})
}

// P8.2: in a cache of the size 1, and of the size 0.
func TestPushSmall(t *testing.T) {
	checkWritten(t, []written{
		{1, "a", "+", "a"},
		{1, "a a a", "+..", "a"},
		{1, "a b", "++", "b"},
		{1, "a b a", "+++", "a"},
		{1, "a b b a a", "++.+.", "a"},
		{1, "a -a a", "+++", "a"},
		{1, "a -a b", "+++", "b"},
		{1, "a b -a b ?b", "++..+", "b"},
		{1, "a b -b a ?b", "++++.", "a"},
		{1, "a ! a", "++", "a"},
		{0, "a", "+", ""},
		{0, "a a b a", "++++", ""},
		{0, "a ?a -a a", "+..+", ""},
		{0, "! a ! a ?a", "++.", ""},
	})
}

// P8.3: the first, the last, an inner and the only key, and keys that are not there.
func TestRemove(t *testing.T) {
	checkWritten(t, []written{
		{4, "a -a ?a", "++.", ""},
		{4, "a -a -a", "++.", ""},
		{4, "a b -a ?a ?b", "+++.+", "b"},
		{4, "a b -b ?a ?b", "++++.", "a"},
		{4, "a b c -a -a", "++++.", "bc"},
		{4, "a b c -b -b", "++++.", "ac"},
		{4, "a b c -c -c", "++++.", "ab"},
		{4, "a b c d -a", "+++++", "bcd"},
		{4, "a b c d -b", "+++++", "acd"},
		{4, "a b c d -c", "+++++", "abd"},
		{4, "a b c d -d", "+++++", "abc"},
		{4, "a b c d -c -a", "++++++", "bd"},
		{4, "a b c d -a -b -c -d -a -d", "++++++++..", ""},
		{4, "a b c d -d -c -b -a", "++++++++", ""},
		{4, "a b c d -b e f", "+++++++", "cdef"},
		{4, "a b c d a -b a", "++++.+.", "cda"},
		{4, "a b -x", "++.", "ab"},
		{4, "a b c d e -a", "+++++.", "bcde"},
		{4, "-a a", ".+", "a"},
		{1, "a -b", "+.", "a"},
		{0, "-a", ".", ""},
	})
}

// P8.3: Has of keys that are there and of others; it saves none of them from being removed.
func TestHas(t *testing.T) {
	checkWritten(t, []written{
		{3, "?a a ?a ?b", ".++.", "a"},
		{3, "a b c ?a ?b ?c ?d", "++++++.", "abc"},
		{3, "a b c ?a d ?a", "+++++.", "bcd"},
		{3, "a b c ?a ?a ?a d e ?a ?b", "++++++++..", "cde"},
		{3, "a b c ?b d e ?b", "++++++.", "cde"},
		{3, "a b c d ?a e ?a", "++++.+.", "cde"},
		{3, "a b c -b ?b", "++++.", "ac"},
		{3, "a b c ?x x", "+++.+", "bcx"},
		{1, "a ?a b ?a ?b", "+++.+", "b"},
		{0, "?a a ?a", ".+.", ""},
	})
}

// P8.3: behind Reset the cache is filled again, with its size as before.
func TestReset(t *testing.T) {
	checkWritten(t, []written{
		{3, "!", "", ""},
		{3, "a b ! ?a ?b", "++..", ""},
		{3, "a b c ! -a -b -c", "+++...", ""},
		{3, "a b c ! ! a", "++++", "a"},
		{3, "a b c ! c b a d", "+++++++", "bad"},
		{3, "a b c d ! a b", "++++++", "ab"},
		{3, "a -a ! b c", "++++", "bc"},
	})
	all := digests(2 * api.MaxCache)
	for _, size := range []int{0, 1, 2, 7, 100, api.MaxCache - 1, api.MaxCache} {
		for _, n := range []int{0, 1, size / 2, size, size + 1, 2 * size} {
			b := filled(t, size, all[:min(n, len(all))])
			b.remove(t, all[n/2])
			for range 2 {
				b.reset()
				b.check(t)
				for _, k := range all[:min(n, len(all))] {
					b.has(t, k)
				}
				for i := range min(size+3, len(all)) {
					b.push(t, all[i])
				}
				b.check(t)
			}
		}
	}
}

// P8.1: a size below 0 or above MaxCache counts as before behind Reset, too.
func TestResetOfOtherSizes(t *testing.T) {
	all := digests(api.MaxCache + 2)
	for _, x := range []struct{ size, counts int }{{math.MinInt, 0}, {-1, 0}, {api.MaxCache + 1, api.MaxCache}, {math.MaxInt, api.MaxCache}} {
		c := cache.New(x.size)
		c.Reset()
		for range 2 {
			for _, k := range all {
				c.Push(k)
			}
			if c.Len() != x.counts || !slices.Equal(c.Keys(), all[len(all)-x.counts:]) {
				t.Errorf("New(%d) behind Reset keeps %d keys; want %d", x.size, c.Len(), x.counts)
			}
			c.Reset()
		}
	}
}

// P8.2 and P8.3: a Push, a Remove and a Has of each key of caches of many lengths, full and with room.
func TestEachKey(t *testing.T) {
	all := digests(20)
	for size := range 10 {
		for n := range size + 4 {
			for i := range n + 1 {
				b := filled(t, size, all[:n])
				b.has(t, all[i])
				b.check(t)
				b.push(t, all[i])
				b.check(t)
				b.push(t, all[19])
				b.check(t)
				b = filled(t, size, all[:n])
				b.remove(t, all[i])
				b.check(t)
				b.remove(t, all[i])
				b.has(t, all[i])
				b.check(t)
				// More new keys than were there: every place is used again.
				for j := range size + 2 {
					b.push(t, all[18-j])
					b.check(t)
				}
			}
		}
	}
}

// P8.2 and P8.3: all sequences of four operations with five keys, on caches of several sizes and with several numbers of keys.
func TestAllSequences(t *testing.T) {
	l := letters("abcde")
	const length = 4
	kinds := 3*len(l) + 1
	all := 1
	for range length {
		all *= kinds
	}
	for _, x := range []struct{ size, n int }{{0, 0}, {1, 0}, {1, 1}, {2, 0}, {2, 2}, {2, 3}, {3, 2}, {3, 3}, {3, 4}, {4, 4}, {5, 4}} {
		for sequence := range all {
			b := filled(t, x.size, l[:x.n])
			for i, rest := 0, sequence; i < length; i, rest = i+1, rest/kinds {
				b.step(t, l, rest%kinds)
			}
			b.check(t)
			for _, k := range l {
				b.has(t, k)
			}
		}
	}
}

// P8.2, P8.3 and P8.5: long sequences, asked behind every step.
func TestLongSequences(t *testing.T) {
	all := digests(api.MaxCache + 300)
	for seed, size := range []int{0, 1, 1, 2, 2, 3, 4, 5, 8, 13, 30, 64, 200, api.MaxCache - 1, api.MaxCache} {
		next := random(seed)
		b := fresh(size)
		l := all[:size+2+size/4]
		for i := range 4000 {
			// In turn mostly new keys, and more removals.
			k := l[next(len(l))]
			switch growing, x := i/(3*size+20)%2 == 0, next(100); {
			case x < 50 || x < 85 && growing:
				b.push(t, k)
			case x < 90:
				b.remove(t, k)
			case x < 99 || i%200 < 190:
				b.has(t, k)
			default:
				b.reset()
			}
			b.check(t)
			b.has(t, k)
			b.has(t, l[next(len(l))])
		}
		for _, k := range l {
			b.has(t, k)
		}
	}
}

// P8.5: behind pushes alone, a cache contains the last size different keys, and nothing else.
func TestLastKeys(t *testing.T) {
	all := digests(1500)
	for seed, size := range []int{0, 1, 2, 3, 7, 50, 400, api.MaxCache} {
		next := random(100 + seed)
		c := cache.New(size)
		var pushed []api.Key
		for range 3000 {
			k := all[next(min(len(all), 2*size+2))]
			pushed = append(pushed, k)
			c.Push(k)
		}
		var last []api.Key
		for i := len(pushed) - 1; i >= 0 && len(last) < size; i-- {
			if !slices.Contains(last, pushed[i]) {
				last = append(last, pushed[i])
			}
		}
		slices.Reverse(last)
		if got := c.Keys(); !slices.Equal(got, last) {
			t.Errorf("size %d: Keys = %s; want %s", size, names(got), names(last))
		}
	}
}

// kept returns those of the last size different keys of a history that were not removed since: a key was pushed or removed at each of its steps.
func kept(history []event, size int) []api.Key {
	var l []api.Key
	seen, removed := map[api.Key]bool{}, map[api.Key]bool{}
	for i := len(history) - 1; i >= 0 && len(seen) < size; i-- {
		k := history[i].key
		switch {
		case seen[k]:
		case history[i].removed:
			removed[k] = true
		default:
			seen[k] = true
			if !removed[k] {
				l = append(l, k)
			}
		}
	}
	return l
}

type event struct {
	key     api.Key
	removed bool
}

// P8.5: behind each step, from the history of a cache alone.
func TestKept(t *testing.T) {
	all := digests(60)
	for seed := range 40 {
		size := seed % 10
		next := random(200 + seed)
		c := cache.New(size)
		var history []event
		for i := range 500 {
			e := event{all[next(size+1+seed)], next(4) == 0}
			history = append(history, e)
			if e.removed {
				c.Remove(e.key)
			} else {
				c.Push(e.key)
			}
			l := c.Keys()
			if len(l) > size || c.Len() != len(l) {
				t.Fatalf("size %d, step %d: %d keys, Len = %d", size, i, len(l), c.Len())
			}
			times := map[api.Key]int{}
			for _, k := range l {
				if times[k]++; times[k] > 1 {
					t.Fatalf("size %d, step %d: %s occurs twice in %s", size, i, name(k), names(l))
				}
			}
			for _, k := range kept(history, size) {
				if times[k] == 0 || !c.Has(k) {
					t.Fatalf("size %d, step %d: %s is not in %s", size, i, name(k), names(l))
				}
			}
		}
	}
}

// P8.2 and P8.3: every bit of a key counts.
func TestSimilarKeys(t *testing.T) {
	for _, base := range []api.Key{{}, letter('a'), sha256.Sum256(nil)} {
		l := []api.Key{base}
		for bit := range 8 * len(base) {
			k := base
			k[bit/8] ^= 1 << (bit % 8)
			l = append(l, k)
		}
		b := fresh(len(l))
		for i, k := range l {
			b.has(t, k)
			b.remove(t, k)
			b.push(t, k)
			b.has(t, l[len(l)-1-i])
			b.check(t)
		}
		for i := 0; i < len(l); i += 2 {
			b.remove(t, l[i])
			b.check(t)
		}
		for _, k := range l {
			b.has(t, k)
		}
		for _, k := range l {
			b.push(t, k)
			b.check(t)
		}
	}
}

// P8.2 and P8.3: the zero key and others that are special as numbers are keys like all others.
func TestSpecialKeys(t *testing.T) {
	ones := api.Key{}
	for i := range ones {
		ones[i] = 255
	}
	l := []api.Key{{}, ones, {1}, {0: 128}, {31: 1}, {31: 128}}
	for size := range len(l) + 2 {
		for first := range l {
			b := fresh(size)
			for i := range 3 * len(l) {
				k := l[(first+i)%len(l)]
				b.has(t, k)
				b.push(t, k)
				b.check(t)
				b.has(t, k)
				b.push(t, k)
				b.remove(t, l[(first+2*i)%len(l)])
				b.check(t)
				b.has(t, l[0])
			}
		}
	}
}

// P8.4: for all methods of a nil cache, in any order.
func TestNil(t *testing.T) {
	var c *cache.Cache
	for i, k := range append(digests(20), api.Key{}, letter('a')) {
		for range 2 {
			if !c.Push(k) {
				t.Errorf("Push of the key %d is false", i)
			}
			if c.Has(k) || c.Remove(k) {
				t.Errorf("Has or Remove of the key %d is true", i)
			}
			if len(c.Keys()) != 0 || c.Len() != 0 {
				t.Errorf("Keys = %s, Len = %d", names(c.Keys()), c.Len())
			}
			c.Reset()
		}
	}
	if c != nil {
		t.Error("the nil cache is not nil any more")
	}
}

// R2: what Keys returns shares no memory with the cache, nor with another result, spare capacity included.
func TestKeysApart(t *testing.T) {
	all := digests(60)
	for _, size := range []int{0, 1, 2, 3, 8, 20} {
		for n := range 2*size + 2 {
			b := filled(t, size, all[:n])
			want := slices.Clone(b.plain.keys)
			first, second := b.cache.Keys(), b.cache.Keys()
			first = first[:cap(first)]
			for i := range first {
				first[i] = letter('x')
			}
			if !slices.Equal(second, want) {
				t.Fatalf("another result has changed to %s", names(second))
			}
			b.check(t)
			b.has(t, letter('x'))
			for i := range n {
				b.remove(t, all[i])
				b.push(t, all[59-i])
				b.cache.Keys()
				b.push(t, all[i])
			}
			b.reset()
			b.push(t, all[0])
			b.check(t)
			if !slices.Equal(second, want) {
				t.Errorf("the cache has changed an earlier result to %s", names(second))
			}
		}
	}
}

// R3: caches do not disturb one another, also not by their sizes, or by Reset.
func TestCachesApart(t *testing.T) {
	all := digests(100)
	for seed := range 10 {
		next := random(300 + seed)
		caches := []*both{fresh(3), fresh(seed), filled(t, 8, all[:20]), fresh(1), fresh(50)}
		for range 300 {
			b := caches[next(len(caches))]
			switch k := all[next(12)]; next(10) {
			case 0:
				b.reset()
			case 1, 2, 3:
				b.remove(t, k)
			default:
				b.push(t, k)
			}
			for _, b := range caches {
				b.check(t)
				b.has(t, all[next(12)])
			}
		}
		b := fresh(4)
		b.check(t)
		b.has(t, all[0])
	}
}

// heapSize returns how many bytes are in use.
func heapSize() uint64 {
	var m runtime.MemStats
	runtime.GC()
	runtime.ReadMemStats(&m)
	return m.HeapAlloc
}

// A cache keeps no more than its keys, however long it is used, also if many are removed at once, or all of them: a million keys of 32 bytes would be 32 MB.
func TestMemory(t *testing.T) {
	counted := func(i int) api.Key { return api.Key{byte(i), byte(i >> 8), byte(i >> 16)} }
	for _, resets := range []bool{false, true} {
		c := cache.New(100)
		before := heapSize()
		for i := range 1000000 {
			if !c.Push(counted(i)) {
				t.Fatalf("Push of the new key %d is false", i)
			}
			switch {
			case i%200 == 199:
				for j := range 50 {
					c.Remove(counted(i - j))
				}
			case i%3 == 0:
				c.Remove(counted(i))
			case resets && i%400 == 299:
				c.Reset()
			}
		}
		if after := heapSize(); after > before+1<<20 {
			t.Errorf("the cache has grown by %d bytes", after-before)
		}
		if c.Len() > 100 {
			t.Errorf("Len = %d", c.Len())
		}
	}
}
