package sender_test

import (
	"math"
	"math/rand"
	"runtime"
	"slices"
	"strings"
	"testing"

	"mempool/sender"
)

const end = math.MaxUint64 // the greatest sequence

// at is where a number is stored.
type at struct {
	name     string
	sequence uint64
}

// both is an index, and beside it what it should contain.
type both struct {
	index *sender.Index
	plain map[at]int
	// All names and sequences for which Add was called, and some more for which it was not.
	names     []string
	sequences []uint64
}

func fresh() *both {
	return &both{
		index: sender.New(), plain: map[at]int{},
		names: []string{"", "never"}, sequences: []uint64{0, 1 << 40, end},
	}
}

// filled returns an index with the numbers from 100 on under name and these sequences.
func filled(t *testing.T, name string, sequences ...uint64) *both {
	t.Helper()
	b := fresh()
	for i, s := range sequences {
		b.add(t, name, s, 100+i)
	}
	return b
}

func (b *both) add(t *testing.T, name string, sequence uint64, id int) {
	t.Helper()
	if !slices.Contains(b.names, name) {
		b.names = append(b.names, name)
	}
	if !slices.Contains(b.sequences, sequence) {
		b.sequences = append(b.sequences, sequence)
	}
	_, found := b.plain[at{name, sequence}]
	if !found {
		b.plain[at{name, sequence}] = id
	}
	if got := b.index.Add(name, sequence, id); got == found {
		t.Fatalf("Add(%q, %d, %d) = %v", name, sequence, id, got)
	}
}

func (b *both) remove(t *testing.T, name string, sequence uint64) {
	t.Helper()
	_, found := b.plain[at{name, sequence}]
	delete(b.plain, at{name, sequence})
	if got := b.index.Remove(name, sequence); got != found {
		t.Fatalf("Remove(%q, %d) = %v", name, sequence, got)
	}
}

// list returns what List should return.
func (b *both) list(name string) []int {
	var sequences []uint64
	for x := range b.plain {
		if x.name == name {
			sequences = append(sequences, x.sequence)
		}
	}
	slices.Sort(sequences)
	var l []int
	for _, s := range sequences {
		l = append(l, b.plain[at{name, s}])
	}
	return l
}

// run returns what Run should return.
func (b *both) run(name string, next uint64) []int {
	var l []int
	for s := next; ; s++ {
		id, found := b.plain[at{name, s}]
		if !found {
			return l
		}
		l = append(l, id)
		if s == end {
			return l
		}
	}
}

// checkWhole checks the results that belong to no name.
func (b *both) checkWhole(t *testing.T) {
	t.Helper()
	var want []string
	for x := range b.plain {
		want = append(want, x.name)
	}
	slices.Sort(want)
	want = slices.Compact(want)
	if got := b.index.Names(); !slices.Equal(got, want) {
		t.Fatalf("Names = %q; want %q", got, want)
	}
	if got := b.index.Len(); got != len(b.plain) {
		t.Fatalf("Len = %d; want %d", got, len(b.plain))
	}
}

func (b *both) checkList(t *testing.T, name string) {
	t.Helper()
	if got, want := b.index.List(name), b.list(name); !slices.Equal(got, want) {
		t.Fatalf("List(%q) = %v; want %v", name, got, want)
	}
}

func (b *both) checkRun(t *testing.T, name string, next uint64) {
	t.Helper()
	if got, want := b.index.Run(name, next), b.run(name, next); !slices.Equal(got, want) {
		t.Fatalf("Run(%q, %d) = %v; want %v", name, next, got, want)
	}
}

// check asks the index everything, for all names and around all sequences, twice, because no answer may change the index.
func (b *both) check(t *testing.T) {
	t.Helper()
	for range 2 {
		b.checkWhole(t)
		for _, name := range b.names {
			b.checkList(t, name)
			for _, s := range b.sequences {
				b.checkRun(t, name, s-1)
				b.checkRun(t, name, s)
				b.checkRun(t, name, s+1)
			}
		}
	}
}

// empty removes everything, in the order of names and sequences, and checks behind every step.
func (b *both) empty(t *testing.T) {
	t.Helper()
	for _, name := range b.names {
		for _, s := range b.sequences {
			b.remove(t, name, s)
			b.checkWhole(t)
			b.checkList(t, name)
		}
	}
	b.check(t)
}

// The examples of the chapter.
func TestExamples(t *testing.T) {
	x := sender.New()
	for i, s := range []uint64{7, 5, 6} {
		if !x.Add("a", s, i+1) {
			t.Errorf("Add of the sequence %d is false", s)
		}
	}
	if got := x.List("a"); !slices.Equal(got, []int{2, 3, 1}) {
		t.Errorf("example 1: %v", got)
	}
	if got := x.Run("a", 6); !slices.Equal(got, []int{3, 1}) {
		t.Errorf("example 2: %v", got)
	}
	if got := x.Run("a", 4); len(got) != 0 {
		t.Errorf("example 2: %v", got)
	}
	if x.Add("a", 5, 9) {
		t.Error("example 3: Add is true")
	}
}

// P17.1: an index is empty at first.
func TestNew(t *testing.T) {
	b := fresh()
	b.check(t)
	for _, name := range []string{"", "a", "\x00"} {
		for _, s := range []uint64{0, 1, 1 << 63, end} {
			b.remove(t, name, s)
		}
	}
	b.check(t)
	b.add(t, "", 0, 0)
	b.check(t)
	b.empty(t)
}

// P17.1 and P17.2: sequences that come in every order, and any of them once more with another number.
func TestAddInEveryOrder(t *testing.T) {
	for _, l := range [][5]uint64{{5, 6, 7, 8, 9}, {5, 7, 9, 11, 13}, {0, 1, 3, 4, 6}, {0, 1, end / 2, end - 1, end}, {end - 5, end - 4, end - 2, end - 1, end}} {
		for word := range 5 * 5 * 5 * 5 * 5 {
			b := fresh()
			for i, rest := 0, word; i < len(l); i, rest = i+1, rest/5 {
				b.add(t, "a", l[rest%5], 10*i)
				b.checkList(t, "a")
			}
			b.checkWhole(t)
			for _, s := range l {
				b.checkRun(t, "a", s)
			}
		}
	}
}

// P17.1: Add returns false at every place of a list that is taken, and the number that is there stays.
func TestAddAgain(t *testing.T) {
	for n := 1; n < 8; n++ {
		b := fresh()
		for i := range n {
			b.add(t, "a", uint64(2*i+1), 50+i)
		}
		for i := range n {
			for _, id := range []int{50 + i, 50 + n, 50, 0, -1, math.MinInt, math.MaxInt} {
				b.add(t, "a", uint64(2*i+1), id)
				b.check(t)
			}
		}
		// Under another name, or another sequence, there is room for it.
		for i := range n {
			b.add(t, "b", uint64(2*i+1), 50+i)
			b.add(t, "a", uint64(2*i), 50+i)
			b.check(t)
		}
		b.empty(t)
	}
}

// P17.1: any number is stored as it is, also if it is stored elsewhere already.
func TestNumbers(t *testing.T) {
	b := fresh()
	for i, id := range []int{0, 1, -1, math.MaxInt, math.MinInt, math.MaxInt32 + 1, math.MinInt32 - 1, math.MaxInt - 1, math.MinInt + 1, 255, 256, 7, 7, 7} {
		alone := fresh()
		alone.add(t, "a", 3, id)
		alone.check(t)
		b.add(t, "a", uint64(i), id)
		b.add(t, "b", uint64(100-i), id)
		b.check(t)
	}
	b.empty(t)
}

// ascending returns names in the order of their bytes, not of their lengths, of their letters or of their runes.
func ascending() []string {
	return []string{
		"", "\x00", "\x00\x00", "\x00a", "\x01", " ", "10", "2", "A", "B", "Z", "\\", "_",
		"a", "a\x00", "a\x00b", "a ", "aB", "aa", "ab", "abc", "abd", "b", "ba", "z", "~",
		"\x7f", "\x80", "\x80\x80", "\xc2", "\u0080", "\u00e4", "\u00e9", "\u00fc", "\uffff", "\xef\xbf\xff", "\U00010000", "\U0010ffff", "\xf8", "\xfe", "\xff", "\xff\x00", "\xff\xff",
	}
}

// P17.2: Names is ascending by bytes, in whatever order the names come and go.
func TestNames(t *testing.T) {
	l := ascending()
	for seed := range 30 {
		x := sender.New()
		r := rand.New(rand.NewSource(int64(seed)))
		order := r.Perm(len(l))
		for _, i := range order {
			x.Add(l[i], 4, i)
			x.Add(l[i], 3, -i)
		}
		if got := x.Names(); !slices.Equal(got, l) {
			t.Fatalf("Names = %q; want %q", got, l)
		}
		left := slices.Clone(l)
		for _, i := range r.Perm(len(l)) {
			if got := x.List(l[i]); !slices.Equal(got, []int{-i, i}) {
				t.Fatalf("List(%q) = %v; want %d and %d", l[i], got, -i, i)
			}
			// One of two numbers keeps the name.
			x.Remove(l[i], uint64(3+seed%2))
			if got := x.Names(); !slices.Equal(got, left) {
				t.Fatalf("Names = %q; want %q", got, left)
			}
			x.Remove(l[i], uint64(4-seed%2))
			left = slices.DeleteFunc(left, func(name string) bool { return name == l[i] })
			if got := x.Names(); !slices.Equal(got, left) {
				t.Fatalf("behind Remove of %q, Names = %q; want %q", l[i], got, left)
			}
		}
	}
}

// P17.1 and P17.2: names that differ in a single byte, or in their lengths, also if they are long.
func TestNamesApart(t *testing.T) {
	long := strings.Repeat("name", 1000)
	b := fresh()
	for _, name := range []string{long, long[:len(long)-1], long[1:], long + "\x00", long + "e", "x" + long[1:], long[:2000] + "x" + long[2001:], strings.ToUpper(long), long[:255], long[:256], long[:257]} {
		b.add(t, name, 8, len(b.names))
		b.add(t, name, 9, len(b.names))
		b.check(t)
	}
	b.empty(t)
	// What is stored under one name is not found under another one.
	l := ascending()
	for i, name := range l {
		x := sender.New()
		x.Add(name, 5, i)
		for j, other := range l {
			if i == j {
				continue
			}
			if len(x.List(other)) != 0 || len(x.Run(other, 5)) != 0 || x.Remove(other, 5) {
				t.Errorf("the number under %q is found under %q", name, other)
			}
		}
		if !x.Remove(name, 5) || x.Remove(name, 5) {
			t.Errorf("Remove of the number under %q", name)
		}
	}
}

// P17.1 and P17.2: every bit of a sequence counts, and the highest one is no sign.
func TestSequenceBits(t *testing.T) {
	for _, base := range []uint64{0, 1, 0x123456789abcdef0, 1 << 63, end} {
		all := filled(t, "a", base)
		for bit := range 64 {
			other := base ^ 1<<bit
			b := filled(t, "a", base)
			b.remove(t, "a", other)
			b.add(t, "a", other, 7)
			b.check(t)
			b.remove(t, "a", base)
			b.check(t)
			all.add(t, "a", other, bit)
		}
		all.check(t)
		all.empty(t)
	}
}

// P17.1: each number of lists of several lengths, the first, the last and the only one among them, and what is not there.
func TestRemove(t *testing.T) {
	for n := 1; n < 9; n++ {
		for i := range n {
			b := fresh()
			for j := range n {
				b.add(t, "a", uint64(10+2*j), j)
				b.add(t, "b", uint64(10+j), 20+j)
			}
			for _, s := range []uint64{0, 9, 11, uint64(10 + 2*n), 1<<32 + 10, 1<<63 + 10, end} {
				b.remove(t, "a", s)
			}
			b.remove(t, "c", 10)
			b.remove(t, "", 10)
			b.remove(t, "A", 10)
			b.check(t)
			for range 2 {
				b.remove(t, "a", uint64(10+2*i))
				b.check(t)
			}
			b.add(t, "a", uint64(10+2*i), 30)
			b.check(t)
			b.remove(t, "a", uint64(10+2*i))
			b.remove(t, "a", uint64(10+2*((i+1)%n)))
			b.check(t)
			b.empty(t)
		}
	}
}

// P17.1: numbers are removed in any order, and stored again.
func TestRemoveInAnyOrder(t *testing.T) {
	for seed := range 60 {
		r := rand.New(rand.NewSource(int64(seed)))
		n := 1 + seed%12
		b := fresh()
		for round := range 3 {
			for _, i := range r.Perm(n) {
				b.add(t, "a", uint64(i), round*n+i)
			}
			b.check(t)
			for _, i := range r.Perm(n) {
				b.remove(t, "a", uint64(i))
				b.checkWhole(t)
				b.checkList(t, "a")
				for s := range n {
					b.checkRun(t, "a", uint64(s))
				}
			}
		}
		b.check(t)
	}
}

// P17.2: written out, from before, at, between and behind the sequences of a name.
func TestRun(t *testing.T) {
	x := sender.New()
	for id, s := range []uint64{3, 4, 5, 7, 9, 10, 1 << 32, 1<<32 + 1, 1 << 63, 1<<63 - 1} {
		x.Add("a", s, id)
	}
	x.Add("b", 6, 60)
	x.Add("b", 8, 80)
	x.Add("b", 11, 110)
	for _, c := range []struct {
		name string
		next uint64
		want []int
	}{
		{"a", 0, nil}, {"a", 1, nil}, {"a", 2, nil},
		{"a", 3, []int{0, 1, 2}}, {"a", 4, []int{1, 2}}, {"a", 5, []int{2}},
		{"a", 6, nil}, {"a", 7, []int{3}}, {"a", 8, nil},
		{"a", 9, []int{4, 5}}, {"a", 10, []int{5}}, {"a", 11, nil},
		{"a", 1<<32 - 1, nil}, {"a", 1 << 32, []int{6, 7}}, {"a", 1<<32 + 1, []int{7}}, {"a", 1<<32 + 2, nil}, {"a", 1<<32 + 3, nil},
		{"a", 1<<63 - 2, nil}, {"a", 1<<63 - 1, []int{9, 8}}, {"a", 1 << 63, []int{8}}, {"a", 1<<63 + 1, nil}, {"a", 1<<63 + 3, nil},
		{"a", end, nil},
		{"b", 5, nil}, {"b", 6, []int{60}}, {"b", 7, nil}, {"b", 8, []int{80}}, {"b", 11, []int{110}}, {"b", 12, nil},
		{"", 3, nil}, {"A", 3, nil}, {"ab", 6, nil}, {"c", 0, nil},
	} {
		if got := x.Run(c.name, c.next); !slices.Equal(got, c.want) {
			t.Errorf("Run(%q, %d) = %v; want %v", c.name, c.next, got, c.want)
		}
	}
}

// P17.2: Run ends at the greatest sequence, and does not go on at 0.
func TestRunAtTheEnd(t *testing.T) {
	sequences := []uint64{0, 1, 2, end - 2, end - 1, end}
	for present := range 1 << len(sequences) {
		b := fresh()
		for i, s := range sequences {
			if present>>i&1 == 1 {
				b.add(t, "a", s, i)
			}
			b.sequences = append(b.sequences, s)
		}
		b.check(t)
	}
	x := sender.New()
	for i, s := range sequences {
		x.Add("a", s, i)
	}
	for next, want := range map[uint64][]int{end: {5}, end - 1: {4, 5}, end - 2: {3, 4, 5}, end - 3: nil, 0: {0, 1, 2}, 2: {2}} {
		if got := x.Run("a", next); !slices.Equal(got, want) {
			t.Errorf("Run from %d = %v; want %v", next, got, want)
		}
	}
}

// P17.2: a run of any length, broken at every place.
func TestRunBroken(t *testing.T) {
	for n := 1; n < 20; n++ {
		for _, least := range []uint64{0, 100, 1<<32 - 5, 1<<63 - 5, end - uint64(n) + 1} {
			for gone := range n {
				b := fresh()
				for i := range n {
					b.add(t, "a", least+uint64(i), i)
				}
				b.remove(t, "a", least+uint64(gone))
				for i := range n {
					b.checkRun(t, "a", least+uint64(i))
				}
				b.checkRun(t, "a", least-1)
				b.checkRun(t, "a", least+uint64(n))
			}
		}
	}
}

// P17.1 and P17.2: all sequences of four operations on an index that is empty, and on some that are not.
func TestAllSequences(t *testing.T) {
	places := []at{{"a", 0}, {"a", 1}, {"a", end}, {"b", 1}, {"", 0}, {"", 2}}
	const length = 4
	// Add and Remove for each place.
	kinds, all := 2*len(places), 1
	for range length {
		all *= kinds
	}
	for _, there := range [][]int{nil, {0, 1}, {4, 3, 2}, {0, 1, 2, 3, 4, 5}} {
		for word := range all {
			b := fresh()
			for _, i := range there {
				b.add(t, places[i].name, places[i].sequence, 90+i)
			}
			for i, rest := 0, word; i < length; i, rest = i+1, rest/kinds {
				if x := places[rest%kinds/2]; rest%2 == 0 {
					b.add(t, x.name, x.sequence, i)
				} else {
					b.remove(t, x.name, x.sequence)
				}
			}
			b.checkWhole(t)
			for _, x := range places {
				b.checkList(t, x.name)
				b.checkRun(t, x.name, x.sequence)
			}
		}
	}
}

// source returns a function that returns a place at each call, under one of n names, with a sequence below spread, or as far from the greatest one.
func source(r *rand.Rand, n, spread int) func() at {
	return func() at {
		x := at{ascending()[r.Intn(n)], uint64(r.Intn(spread))}
		if r.Intn(4) == 0 {
			x.sequence = end - x.sequence
		}
		return x
	}
}

// P17.1, P17.2 and P17.4: long sequences, asked behind every step.
func TestLongSequences(t *testing.T) {
	for seed, n := range []int{1, 1, 2, 2, 3, 5, 8, 20, 40} {
		for _, spread := range []int{2, 5, 12, 40} {
			r := rand.New(rand.NewSource(int64(100*seed + spread)))
			next := source(r, n, spread)
			b := fresh()
			for i := range 700 {
				// In turn more numbers that come, and more that go.
				growing := i/(n*spread+20)%2 == 0
				x := next()
				if k := r.Intn(100); k < 30 || k < 70 && growing {
					b.add(t, x.name, x.sequence, r.Intn(1000)-500)
				} else {
					b.remove(t, x.name, x.sequence)
				}
				b.checkWhole(t)
				b.checkList(t, x.name)
				b.checkRun(t, x.name, x.sequence)
				x = next()
				b.checkList(t, x.name)
				b.checkRun(t, x.name, x.sequence)
			}
			b.check(t)
			b.empty(t)
		}
	}
}

// P17.4: by the results of the index alone, Run from the least sequence is a beginning of List, and the lists of Names have Len numbers.
func TestRunBeginsList(t *testing.T) {
	for seed := range 40 {
		r := rand.New(rand.NewSource(int64(seed)))
		next := source(r, 6, 3+seed)
		x, least := sender.New(), map[string]uint64{}
		for id := range 5 * (seed + 1) {
			p := next()
			x.Add(p.name, p.sequence, id)
			if s, ok := least[p.name]; !ok || p.sequence < s {
				least[p.name] = p.sequence
			}
			sum := 0
			for _, name := range x.Names() {
				run, list := x.Run(name, least[name]), x.List(name)
				if len(run) == 0 || len(run) > len(list) || !slices.Equal(run, list[:len(run)]) {
					t.Fatalf("Run(%q, %d) = %v; List = %v", name, least[name], run, list)
				}
				sum += len(list)
			}
			if sum != x.Len() || len(x.Names()) != len(least) {
				t.Fatalf("Len = %d, Names = %q; there are %d numbers under %d names", x.Len(), x.Names(), sum, len(least))
			}
		}
	}
}

// P17.1 and P17.2: many numbers under a name, and many names, in order, against it, and mixed.
func TestMany(t *testing.T) {
	const n = 20000 // no step has a divisor in common with it, so each of them leads to every number
	var want []int
	var names []string
	for i := range n {
		want = append(want, -i)
		names = append(names, string([]byte{byte(i >> 8), byte(i)}))
	}
	const least uint64 = end - n + 1
	for _, step := range []int{1, n - 1, 7919} {
		x := sender.New()
		for i := range n {
			j := i * step % n
			if !x.Add("many", least+uint64(j), -j) || !x.Add(names[j], 5, j) {
				t.Fatalf("step %d: Add of %d is false", step, j)
			}
		}
		if !slices.Equal(x.List("many"), want) || !slices.Equal(x.Run("many", least), want) || x.Len() != 2*n {
			t.Fatalf("step %d: List, Run or Len = %d is wrong", step, x.Len())
		}
		if got := x.Names(); len(got) != n+1 || !slices.IsSorted(got) {
			t.Fatalf("step %d: there are %d names, or they are not ascending", step, len(got))
		}
		for i := range n {
			j := i * step % n
			if !x.Remove("many", least+uint64(j)) || !slices.Equal(x.List(names[j]), []int{j}) || !x.Remove(names[j], 5) {
				t.Fatalf("step %d: Remove or List for %d is wrong", step, j)
			}
		}
		if x.Len() != 0 || len(x.Names()) != 0 || len(x.List("many")) != 0 {
			t.Errorf("step %d: %d numbers are left", step, x.Len())
		}
	}
}

// P17.3: all methods of a nil index, in any order.
func TestNil(t *testing.T) {
	var x *sender.Index
	for _, name := range []string{"", "a", "\xff"} {
		for _, s := range []uint64{0, 1, 1 << 63, end} {
			for range 2 {
				if x.Add(name, s, 1) {
					t.Errorf("Add(%q, %d) is true", name, s)
				}
				if len(x.List(name)) != 0 || len(x.Run(name, s)) != 0 || len(x.Names()) != 0 || x.Len() != 0 {
					t.Errorf("List = %v, Run = %v, Names = %q, Len = %d", x.List(name), x.Run(name, s), x.Names(), x.Len())
				}
				if x.Remove(name, s) {
					t.Errorf("Remove(%q, %d) is true", name, s)
				}
			}
		}
	}
	if x != nil {
		t.Error("the nil index is not nil any more")
	}
}

// answers returns the results of List and Run from 10 on.
func answers(x *sender.Index) [][]int {
	return [][]int{x.List("a"), x.Run("a", 10), x.List("b"), x.Run("b", 10), x.List("c"), x.Run("c", 10)}
}

// R2: what is returned shares no memory with the index, nor with another result, spare capacity included, also if there were more numbers before.
func TestResultsApart(t *testing.T) {
	for n := range 20 {
		for left := range n + 1 {
			b := fresh()
			for i := range n {
				b.add(t, "a", uint64(10+i), i)
				b.add(t, "b", uint64(n+10-i), -i)
			}
			for i := range n - left {
				b.remove(t, "a", uint64(n+9-i))
				b.remove(t, "b", uint64(n+10-i))
			}
			want := [][]int{b.list("a"), b.run("a", 10), b.list("b"), b.run("b", 10), nil, nil}
			wantNames := b.index.Names()
			first, second, names, otherNames := answers(b.index), answers(b.index), b.index.Names(), b.index.Names()
			for _, l := range first {
				for i := range l[:cap(l)] {
					l[:cap(l)][i] = 9999
				}
			}
			for i := range names[:cap(names)] {
				names[:cap(names)][i] = "changed"
			}
			same := func(a []int, b []int) bool { return slices.Equal(a, b) }
			if !slices.EqualFunc(second, want, same) || !slices.Equal(otherNames, wantNames) {
				t.Fatalf("other results have changed to %v and %q", second, otherNames)
			}
			b.check(t)
			// What comes and goes later changes no earlier result.
			for i := range n {
				b.add(t, "a", uint64(40+i), 500+i)
				b.remove(t, "a", uint64(10+i))
				b.add(t, "c", uint64(10+i), 600+i)
				b.remove(t, "b", uint64(10+i))
				answers(b.index)
				b.index.Names()
			}
			b.check(t)
			if !slices.EqualFunc(second, want, same) || !slices.Equal(otherNames, wantNames) {
				t.Fatalf("the index has changed earlier results to %v and %q", second, otherNames)
			}
		}
	}
}

// R3: indexes do not disturb each other, also not by the same names and sequences.
func TestIndexesApart(t *testing.T) {
	for seed := range 10 {
		r := rand.New(rand.NewSource(int64(seed)))
		next := source(r, 4, 6)
		all := []*both{fresh(), fresh(), filled(t, "", 1, 2, 3), filled(t, "a", 4, 2, 0)}
		for i := range 150 {
			b, x := all[r.Intn(len(all))], next()
			if r.Intn(3) > 0 {
				b.add(t, x.name, x.sequence, i)
			} else {
				b.remove(t, x.name, x.sequence)
			}
			for _, b := range all {
				b.checkWhole(t)
				b.checkList(t, x.name)
				b.checkRun(t, x.name, x.sequence)
			}
		}
		fresh().check(t)
		for _, b := range all {
			b.check(t)
			b.empty(t)
		}
	}
}

// used returns how many bytes are in use.
func used() int {
	var m runtime.MemStats
	runtime.GC()
	runtime.ReadMemStats(&m)
	return int(m.HeapAlloc)
}

// part returns a short name that is a part of a string of a megabyte.
func part(i int) string {
	return strings.Repeat(string(rune('a'+i)), 1<<20)[:5]
}

// An index keeps nothing of what was removed or refused, and of longer strings only the names that are parts of them: each of these would be more than a megabyte.
func TestMemory(t *testing.T) {
	x := sender.New()
	before := used()
	grown := func(when string) {
		t.Helper()
		if after := used(); after > before+1<<20 {
			t.Errorf("behind %s, the index keeps %d bytes", when, after-before)
		}
	}
	for i := range 200000 {
		name := "name" + string([]byte{byte(i), byte(i >> 8), byte(i >> 16)})
		if !x.Add(name, uint64(i), i) || !x.Add("", uint64(i), i) || x.Add("", uint64(i), -i) {
			t.Fatalf("Add of %d", i)
		}
		x.Add(name, uint64(i), -i)
		if !x.Remove(name, uint64(i)) || i >= 10 && !x.Remove("", uint64(i-10)) {
			t.Fatalf("Remove of %d", i)
		}
		x.Remove(name, uint64(i))
	}
	grown("200000 numbers that came and went")
	for i := range 5 {
		x.Add(part(i), 1, 1)
		x.Add(part(i), 2, 2)
		x.Add(part(i), 2, 3)
		x.Add(part(i), 3, 3)
	}
	grown("Add of names from long strings")
	for i := range 5 {
		x.Remove(part(i), 1)
		x.Remove(part(i), 1)
		x.List(part(i))
		x.Run(part(i), 2)
	}
	grown("Remove of names from long strings")
	if x.Len() != 20 || len(x.Names()) != 6 || !slices.Equal(x.List("ccccc"), []int{2, 3}) {
		t.Errorf("Len = %d, Names = %q", x.Len(), x.Names())
	}
}
