package evict_test

import (
	"math"
	"math/big"
	"math/rand"
	"slices"
	"strings"
	"testing"

	"mempool/api"
	"mempool/evict"
)

// named returns an entry with so many bytes, whose Key begins with the bytes of name.
func named(name string, priority uint64, order, size int) api.Entry {
	e := api.Entry{Raw: make([]byte, size), Priority: priority, Order: order}
	copy(e.Key[:], name)
	return e
}

// listed returns entries a, b, c and so on with these priorities and these numbers of bytes (one digit each), in the order of arrival.
func listed(priorities, sizes string) []api.Entry {
	var l []api.Entry
	for i := range len(priorities) {
		l = append(l, named(string(rune('a'+i)), uint64(priorities[i]-'0'), i, int(sizes[i]-'0')))
	}
	return l
}

// full returns an entry that differs in every field from those with other numbers.
func full(i int) api.Entry {
	return api.Entry{
		Key:      api.Key{byte(i), byte(i >> 8), 31: byte(i + 1)},
		Raw:      []byte(strings.Repeat(string(rune('a'+i%26)), i+1)),
		Sender:   "sender" + string(rune('a'+i%26)),
		Sequence: uint64(i + 100), Gas: uint64(i + 200), Priority: uint64(i + 300),
		Height: i + 400, Time: i + 500, Order: i + 600,
		Peers: []int{i, i + 1, -i},
	}
}

// same reports whether all fields of a and b are equal.
func same(a, b api.Entry) bool {
	return a.Key == b.Key && slices.Equal(a.Raw, b.Raw) && a.Sender == b.Sender &&
		a.Sequence == b.Sequence && a.Gas == b.Gas && a.Priority == b.Priority &&
		a.Height == b.Height && a.Time == b.Time && a.Order == b.Order &&
		slices.Equal(a.Peers, b.Peers)
}

// copied returns entries that share no memory with those of l.
func copied(l []api.Entry) []api.Entry {
	c := slices.Clone(l)
	for i := range c {
		c[i].Raw, c[i].Peers = slices.Clone(c[i].Raw), slices.Clone(c[i].Peers)
	}
	return c
}

// names returns the first bytes of the keys, for lists that are written out.
func names(keys []api.Key) string {
	s := ""
	for _, k := range keys {
		s += string(k[:1])
	}
	return s
}

func keys(l []api.Entry) []api.Key {
	var all []api.Key
	for _, e := range l {
		all = append(all, e.Key)
	}
	return all
}

// earlier reports whether the entry at i has to leave before the one at j.
func earlier(l []api.Entry, i, j int) bool {
	switch a, b := l[i], l[j]; {
	case a.Priority != b.Priority:
		return a.Priority < b.Priority
	case a.Order != b.Order:
		return a.Order > b.Order
	}
	return i > j
}

// ordered returns what Order should return: an entry stands behind as many as have to leave before it.
func ordered(l []api.Entry) []api.Entry {
	out := make([]api.Entry, len(l))
	for i := range l {
		place := 0
		for j := range l {
			if earlier(l, j, i) {
				place++
			}
		}
		out[place] = l[i]
	}
	return out
}

// roomy reports, by numbers of any size, whether the entries and a new one with this size keep the limits.
func roomy(l []api.Entry, size, maxTxs, maxBytes int) bool {
	count, bytes := big.NewInt(1), big.NewInt(0)
	if size > 0 {
		bytes.SetInt64(int64(size))
	}
	for _, e := range l {
		count.Add(count, big.NewInt(1))
		bytes.Add(bytes, big.NewInt(int64(len(e.Raw))))
	}
	return count.Cmp(big.NewInt(int64(maxTxs))) <= 0 && bytes.Cmp(big.NewInt(int64(maxBytes))) <= 0
}

// selected returns what Select should return.
func selected(l []api.Entry, priority uint64, size, maxTxs, maxBytes int) ([]api.Key, bool) {
	var candidates, others []api.Entry
	for _, e := range ordered(l) {
		if e.Priority < priority {
			candidates = append(candidates, e)
		} else {
			others = append(others, e)
		}
	}
	for n := range len(candidates) + 1 {
		if roomy(slices.Concat(candidates[n:], others), size, maxTxs, maxBytes) {
			return keys(candidates[:n]), true
		}
	}
	return nil, false
}

func checkOrder(t *testing.T, l []api.Entry) {
	t.Helper()
	if got, want := evict.Order(l), ordered(l); !slices.EqualFunc(got, want, same) {
		t.Fatalf("Order(%v) = %v; want %v", l, got, want)
	}
}

func checkSelect(t *testing.T, l []api.Entry, priority uint64, size, maxTxs, maxBytes int) {
	t.Helper()
	got, ok := evict.Select(l, priority, size, maxTxs, maxBytes)
	if want, wantOK := selected(l, priority, size, maxTxs, maxBytes); !slices.Equal(got, want) || ok != wantOK {
		t.Fatalf("Select(%v, %d, %d, %d, %d) = %v, %v; want %v, %v", l, priority, size, maxTxs, maxBytes, got, ok, want, wantOK)
	}
}

// The examples of the chapter.
func TestExamples(t *testing.T) {
	l := listed("122", "111")
	for _, x := range []struct {
		priority uint64
		txs      int
		want     string
		ok       bool
	}{
		{2, 4, "", true}, {2, 3, "a", true}, {2, 2, "", false}, {2, 1, "", false},
		{3, 1, "acb", true},
	} {
		if got, ok := evict.Select(l, x.priority, 1, x.txs, 100); names(got) != x.want || ok != x.ok {
			t.Errorf("Select with the priority %d and room for %d entries = %q, %v", x.priority, x.txs, names(got), ok)
		}
	}
	if got, ok := evict.Select(nil, 5, 0, 0, 100); len(got) != 0 || ok {
		t.Errorf("example 3: %v, %v", got, ok)
	}
}

// P21.1, written out: the least priority first, then the greatest order, then the later one in the list.
func TestOrder(t *testing.T) {
	for _, x := range []struct {
		priorities string
		orders     []int
		want       string
	}{
		{"", nil, ""},
		{"5", []int{0}, "a"},
		{"12", []int{0, 0}, "ab"},
		{"21", []int{0, 0}, "ba"},
		{"12", []int{1, 9}, "ab"},
		{"21", []int{9, 1}, "ba"},
		{"11", []int{1, 2}, "ba"},
		{"11", []int{2, 1}, "ab"},
		{"11", []int{-2, -1}, "ba"},
		{"11", []int{-1, 0}, "ba"},
		{"11", []int{1, 1}, "ba"},
		{"1111", []int{7, 7, 7, 7}, "dcba"},
		{"122", []int{0, 1, 2}, "acb"},
		{"31232", []int{0, 4, 2, 3, 4}, "becda"},
		{"3213213", []int{5, 5, 5, 5, 5, 5, 5}, "fcebgda"},
		{"2222222", []int{3, 1, 2, 3, 1, 2, 3}, "gdafceb"},
		{"9010", []int{0, -1, -2, 1}, "dbca"},
	} {
		var l []api.Entry
		for i, order := range x.orders {
			l = append(l, named(string(rune('a'+i)), uint64(x.priorities[i]-'0'), order, i))
		}
		got := evict.Order(l)
		if names(keys(got)) != x.want {
			t.Errorf("Order of %s and %v = %s; want %s", x.priorities, x.orders, names(keys(got)), x.want)
		}
		checkOrder(t, l)
	}
}

// P21.1: nothing but the three counts, and every field of an entry is returned.
func TestOrderFields(t *testing.T) {
	r := rand.New(rand.NewSource(21))
	for range 200 {
		var l []api.Entry
		for _, i := range r.Perm(30)[:r.Intn(31)] {
			e := full(i)
			e.Priority, e.Order = uint64(r.Intn(4)), r.Intn(3)
			l = append(l, e)
		}
		checkOrder(t, l)
	}
	var l []api.Entry
	for _, e := range []api.Entry{
		{}, {Raw: []byte{}}, {Raw: []byte{0, 255}}, {Raw: make([]byte, 5000)}, {Sender: "\xff\x00"}, {Sender: strings.Repeat("z", 1000)},
		{Sequence: math.MaxUint64}, {Gas: math.MaxUint64}, {Height: math.MinInt}, {Height: math.MaxInt}, {Time: math.MinInt}, {Time: math.MaxInt},
		{Peers: []int{}}, {Peers: []int{math.MaxInt, 3, 3, math.MinInt}}, {Key: api.Key{31: 255}}, full(7), full(300),
	} {
		l = append(l, e)
		checkOrder(t, []api.Entry{e})
		checkOrder(t, []api.Entry{e, e, full(1)})
		checkOrder(t, l)
	}
}

// P21.1: priorities and orders at the ends of their types.
func TestOrderAtEnds(t *testing.T) {
	priorities := []uint64{0, 1, 2, 1<<31 - 1, 1 << 31, 1 << 32, 1<<32 + 1, 1<<63 - 1, 1 << 63, 1<<63 + 1, math.MaxUint64 - 1, math.MaxUint64}
	orders := []int{math.MinInt, math.MinInt + 1, -1 << 32, -1, 0, 1, 1 << 31, 1 << 32, math.MaxInt - 1, math.MaxInt}
	var all []api.Entry
	for i, priority := range priorities {
		for j, order := range orders {
			all = append(all, named(string([]byte{byte(i), byte(j)}), priority, order, 0))
		}
	}
	for _, a := range all {
		for _, b := range all {
			checkOrder(t, []api.Entry{a, b})
		}
	}
	r := rand.New(rand.NewSource(22))
	for range 20 {
		r.Shuffle(len(all), func(i, j int) { all[i], all[j] = all[j], all[i] })
		checkOrder(t, all)
	}
}

// P21.1: all lists of up to five entries with three priorities and two orders.
func TestShortOrders(t *testing.T) {
	for n := range 6 {
		for x := range power(6, n) {
			var l []api.Entry
			for i := range n {
				kind := x / power(6, i) % 6
				l = append(l, named(string(rune('a'+i)), uint64(kind/2), kind%2, 0))
			}
			checkOrder(t, l)
		}
	}
}

func power(base, exponent int) int {
	product := 1
	for range exponent {
		product *= base
	}
	return product
}

// P21.1: long lists with many entries that are equal by one or both of the numbers.
func TestLongOrders(t *testing.T) {
	r := rand.New(rand.NewSource(23))
	for _, n := range []int{10, 11, 12, 13, 19, 20, 21, 22, 40, 41, 100, 511, 512, 1500} {
		for _, kinds := range []int{1, 2, 5, 1000} {
			l := make([]api.Entry, n)
			for i := range l {
				l[i] = named(string([]byte{byte(i), byte(i >> 8)}), uint64(r.Intn(kinds)), r.Intn(kinds), 0)
			}
			checkOrder(t, l)
		}
	}
}

// P21.1: entries that are equal in everything that counts change their places with every call, so two calls give them back.
func TestOrderTwice(t *testing.T) {
	var l []api.Entry
	for i := range 50 {
		l = append(l, named(string(rune('a'+i)), 7, 7, i))
	}
	once := evict.Order(l)
	if !slices.EqualFunc(evict.Order(once), l, same) {
		t.Error("Order of Order is another list")
	}
	slices.Reverse(once)
	if !slices.EqualFunc(once, l, same) {
		t.Error("Order does not turn a list of equal entries around")
	}
}

// P21.1: an entry that occurs twice, and different ones with the same key, are all returned.
func TestOrderOfEqualKeys(t *testing.T) {
	e := full(3)
	other := full(4)
	other.Key = e.Key
	for _, l := range [][]api.Entry{{e, e}, {e, other, e}, {other, e, e, other}, {other, other, other}} {
		checkOrder(t, l)
	}
}

// P21.2, written out: a to e arrived one after the other.
func TestSelect(t *testing.T) {
	for _, x := range []struct {
		priorities, sizes   string
		priority            uint64
		size, txs, maxBytes int
		want                string
		ok                  bool
	}{
		// There is room.
		{"", "", 0, 0, 1, 0, "", true},
		{"", "", 9, 10, 1, 10, "", true},
		{"111", "123", 9, 4, 4, 10, "", true},
		{"111", "123", 0, 4, 4, 10, "", true},
		{"111", "000", 9, 0, 4, 0, "", true},
		// There is none, and nobody who could leave.
		{"", "", 9, 0, 0, 10, "", false},
		{"", "", 9, 0, -1, 10, "", false},
		{"", "", 9, 11, 1, 10, "", false},
		{"", "", 9, 0, 1, -1, "", false},
		{"999", "111", 9, 1, 3, 10, "", false},
		{"999", "111", 8, 1, 3, 10, "", false},
		{"999", "111", 0, 1, 3, 10, "", false},
		{"000", "111", 0, 1, 3, 10, "", false},
		// Room for entries.
		{"31425", "11111", 9, 1, 5, 100, "b", true},
		{"31425", "11111", 9, 1, 4, 100, "bd", true},
		{"31425", "11111", 9, 1, 3, 100, "bda", true},
		{"31425", "11111", 9, 1, 2, 100, "bdac", true},
		{"31425", "11111", 9, 1, 1, 100, "bdace", true},
		{"31425", "11111", 9, 1, 0, 100, "", false},
		{"31425", "11111", 5, 1, 2, 100, "bdac", true},
		{"31425", "11111", 5, 1, 1, 100, "", false},
		{"31425", "11111", 4, 1, 3, 100, "bda", true},
		{"31425", "11111", 4, 1, 2, 100, "", false},
		{"31425", "11111", 2, 1, 5, 100, "b", true},
		{"31425", "11111", 2, 1, 4, 100, "", false},
		{"31425", "11111", 1, 1, 5, 100, "", false},
		{"31425", "11111", 1, 1, 6, 100, "", true},
		// Equal priorities: the last one that came leaves first.
		{"22222", "11111", 3, 1, 3, 100, "edc", true},
		{"21212", "11111", 2, 1, 4, 100, "db", true},
		{"21212", "11111", 3, 1, 3, 100, "dbe", true},
		// Room for bytes.
		{"12345", "11111", 9, 1, 9, 6, "", true},
		{"12345", "11111", 9, 2, 9, 6, "a", true},
		{"12345", "11111", 9, 6, 9, 6, "abcde", true},
		{"12345", "11111", 9, 7, 9, 6, "", false},
		{"12345", "54321", 9, 0, 9, 14, "a", true},
		{"12345", "54321", 9, 5, 9, 15, "a", true},
		{"12345", "54321", 9, 6, 9, 15, "ab", true},
		{"12345", "54321", 9, 9, 9, 15, "ab", true},
		{"12345", "54321", 9, 10, 9, 15, "abc", true},
		{"12345", "54321", 9, 15, 9, 15, "abcde", true},
		{"12345", "54321", 5, 14, 9, 15, "abcd", true},
		{"12345", "54321", 5, 15, 9, 15, "", false},
		{"12345", "54321", 9, 0, 9, 0, "abcde", true},
		{"12345", "54321", 9, 0, 9, -1, "", false},
		// Entries without bytes have to leave, too, if it is their turn; but those at the end do not.
		{"12345", "00900", 9, 9, 9, 9, "abc", true},
		{"12345", "00900", 9, 0, 9, 9, "", true},
		{"12345", "00000", 9, 1, 9, 0, "", false},
		{"12345", "00000", 9, 0, 9, 0, "", true},
		// A single later one with enough bytes does not leave alone.
		{"123", "119", 9, 9, 9, 11, "abc", true},
		{"321", "911", 9, 9, 9, 11, "cba", true},
		// Both limits, either of which may be the one that asks for more.
		{"12345", "11111", 9, 1, 3, 5, "abc", true},
		{"12345", "11111", 9, 1, 5, 3, "abc", true},
		{"12345", "11111", 9, 3, 4, 5, "abc", true},
		{"12345", "54321", 9, 5, 4, 15, "ab", true},
		{"12345", "54321", 9, 6, 5, 15, "ab", true},
		{"12345", "11111", 9, 9, 5, 5, "", false},
		{"12345", "11111", 9, 1, 0, 99, "", false},
		// A size below 0 counts as 0.
		{"12345", "11111", 9, -1, 9, 5, "", true},
		{"12345", "11111", 9, -5, 9, 4, "a", true},
		{"12345", "11111", 9, math.MinInt, 9, 0, "abcde", true},
		{"12345", "11111", 9, math.MinInt, 9, -1, "", false},
	} {
		l := listed(x.priorities, x.sizes)
		got, ok := evict.Select(l, x.priority, x.size, x.txs, x.maxBytes)
		if names(got) != x.want || ok != x.ok {
			t.Errorf("Select%v = %q, %v", x, names(got), ok)
		}
		checkSelect(t, l, x.priority, x.size, x.txs, x.maxBytes)
	}
}

// P21.2: the victims are in the order of Order, whatever the order of the list is.
func TestSelectOrder(t *testing.T) {
	r := rand.New(rand.NewSource(24))
	for range 100 {
		var l []api.Entry
		for i := range 40 {
			l = append(l, named(string(rune('a'+i)), uint64(r.Intn(4)), r.Intn(4), r.Intn(3)))
		}
		order := keys(evict.Order(l))
		for n := range len(l) + 1 {
			got, ok := evict.Select(l, 4, 0, len(l)+1-n, math.MaxInt)
			if !slices.Equal(got, order[:n]) || !ok {
				t.Fatalf("Select of %d entries from %v = %v, %v; want %v", n, l, got, ok, order[:n])
			}
		}
	}
}

// P21.2: sizes and limits at the ends of the integers; sums are exact.
func TestSelectAtEnds(t *testing.T) {
	ends := []int{
		math.MinInt, math.MinInt + 1, math.MinInt + 10, -1 << 62, -1 << 32, -11, -10, -2, -1, 0, 1, 2, 3, 4, 5, 6, 7, 9, 10, 11, 12,
		1<<31 - 1, 1 << 31, 1 << 32, 1<<32 + 5, 1 << 62, math.MaxInt - 11, math.MaxInt - 10, math.MaxInt - 5, math.MaxInt - 1, math.MaxInt,
	}
	for _, l := range [][]api.Entry{nil, listed("1", "1"), listed("2341", "1234"), listed("3333", "0505"), listed("9199", "5050")} {
		for _, size := range ends {
			for _, maxBytes := range ends {
				for _, maxTxs := range []int{0, 1, 3, 4, 5, math.MaxInt} {
					checkSelect(t, l, 4, size, maxTxs, maxBytes)
				}
			}
		}
		for _, maxTxs := range ends {
			for _, priority := range []uint64{0, 3, 5, math.MaxUint64} {
				checkSelect(t, l, priority, 1, maxTxs, 8)
				checkSelect(t, l, priority, 0, maxTxs, math.MaxInt)
			}
		}
	}
}

// P21.2: priorities at the ends of their type; only a lesser one makes a candidate.
func TestSelectPriorities(t *testing.T) {
	priorities := []uint64{0, 1, 2, 1<<31 - 1, 1 << 31, 1 << 32, 1<<32 + 1, 1<<63 - 1, 1 << 63, 1<<63 + 1, math.MaxUint64 - 1, math.MaxUint64}
	for _, a := range priorities {
		for _, b := range priorities {
			got, ok := evict.Select([]api.Entry{named("x", a, 0, 1)}, b, 1, 1, 1)
			if want := map[bool]string{true: "x"}[a < b]; names(got) != want || ok != (a < b) {
				t.Errorf("Select of one with the priority %d for one with %d = %q, %v", a, b, names(got), ok)
			}
		}
	}
	var l []api.Entry
	for i, p := range priorities {
		l = append(l, named(string(rune('a'+i)), p, i, 1), named(string(rune('A'+i)), p, i-1, 2))
	}
	for _, p := range priorities {
		for n := range len(l) + 2 {
			checkSelect(t, l, p, 1, n, 100)
			checkSelect(t, l, p, 3, 100, 2*n)
		}
	}
}

// P21.2: all lists of up to three entries with three priorities, two orders and two sizes, and small limits.
func TestShortSelects(t *testing.T) {
	for n := range 4 {
		for x := range power(12, n) {
			var l []api.Entry
			for i := range n {
				kind := x / power(12, i) % 12
				l = append(l, named(string(rune('a'+i)), uint64(kind/4), kind/2%2, kind%2*2))
			}
			for _, priority := range []uint64{0, 1, 2, 3} {
				for _, size := range []int{-1, 0, 3} {
					for maxTxs := range 5 {
						checkSelect(t, l, priority, size, maxTxs, x%8)
						checkSelect(t, l, priority, size, 5, maxTxs)
					}
				}
			}
		}
	}
}

// random returns a list of up to n entries, some of them with the same key.
func random(r *rand.Rand, n int) []api.Entry {
	var l []api.Entry
	for range r.Intn(n + 1) {
		e := full(r.Intn(30))
		e.Priority, e.Order, e.Raw = uint64(r.Intn(8)), r.Intn(6)-2, make([]byte, r.Intn(12))
		l = append(l, e)
	}
	return l
}

// P21.2: lists of any length, with fields that do not count.
func TestRandomSelects(t *testing.T) {
	r := rand.New(rand.NewSource(25))
	for i := range 2000 {
		n := 25
		if i%50 == 0 {
			n = 300
		}
		l := random(r, n)
		for range 5 {
			checkSelect(t, l, uint64(r.Intn(10)), r.Intn(30)-3, r.Intn(len(l)+4), r.Intn(6*len(l)+30))
		}
	}
}

// P21.2: keys do not count, so an entry that occurs twice leaves twice.
func TestSelectOfEqualKeys(t *testing.T) {
	e := named("x", 5, 5, 3)
	l := []api.Entry{e, e, named("x", 6, 5, 1), named("y", 7, 5, 1)}
	for n := range 6 {
		checkSelect(t, l, 6, 1, n, 100)
		checkSelect(t, l, 9, 1, n, 100)
		checkSelect(t, l, 9, 1, 100, 2*n)
	}
	if got, ok := evict.Select(l, 9, 1, 2, 100); names(got) != "xxx" || !ok {
		t.Errorf("Select = %q, %v", names(got), ok)
	}
}

// P21.3: victims have a lesser priority, one less would not be enough, and there are none if there is room. If there are none although there is no room, all of lesser priority together would not be enough.
func TestVictims(t *testing.T) {
	r := rand.New(rand.NewSource(26))
	for range 5000 {
		var l []api.Entry
		for i := range r.Intn(20) {
			l = append(l, named(string(rune('a'+i)), uint64(r.Intn(5)), r.Intn(20), r.Intn(10)))
		}
		priority, size, maxTxs, maxBytes := uint64(r.Intn(6)), r.Intn(20)-2, r.Intn(len(l)+3), r.Intn(100)
		victims, ok := evict.Select(l, priority, size, maxTxs, maxBytes)
		without := func(keys []api.Key) []api.Entry {
			return slices.DeleteFunc(slices.Clone(l), func(e api.Entry) bool { return slices.Contains(keys, e.Key) })
		}
		for _, e := range l {
			if slices.Contains(victims, e.Key) && e.Priority >= priority {
				t.Fatalf("Select(%v, %d, ..) contains %v", l, priority, e.Key)
			}
		}
		if !ok {
			rest := slices.DeleteFunc(slices.Clone(l), func(e api.Entry) bool { return e.Priority < priority })
			if len(victims) != 0 || roomy(rest, size, maxTxs, maxBytes) {
				t.Fatalf("Select(%v, %d, %d, %d, %d) = %v, false", l, priority, size, maxTxs, maxBytes, victims)
			}
			continue
		}
		if !roomy(without(victims), size, maxTxs, maxBytes) {
			t.Fatalf("no room without the victims %v of %v", victims, l)
		}
		if n := len(victims); n > 0 && roomy(without(victims[:n-1]), size, maxTxs, maxBytes) {
			t.Fatalf("one less than the victims %v of %v would do", victims, l)
		}
	}
}

// R2: the argument and the spare capacity of its slices stay as they are.
func TestArguments(t *testing.T) {
	r := rand.New(rand.NewSource(27))
	for range 300 {
		whole := append(random(r, 30), full(1), full(2), full(3))
		for i := range whole {
			whole[i].Raw = append(whole[i].Raw, 1, 2, 3)
			whole[i].Peers = append(whole[i].Peers, 1, 2, 3)
		}
		before := copied(whole)
		l := whole[: len(whole)-3 : len(whole)]
		for i := range l {
			l[i].Raw = l[i].Raw[:len(l[i].Raw)-3]
			l[i].Peers = l[i].Peers[:len(l[i].Peers)-3]
		}
		short := copied(l)
		evict.Order(l)
		for n := range len(l) + 2 {
			evict.Select(l, 4, 1, n, 50)
			evict.Select(l, 9, n, 100, 50)
		}
		if !slices.EqualFunc(l, short, same) {
			t.Fatalf("%v has become %v", short, l)
		}
		for i := range l {
			l[i].Raw = l[i].Raw[:len(l[i].Raw)+3]
			l[i].Peers = l[i].Peers[:len(l[i].Peers)+3]
		}
		if !slices.EqualFunc(whole, before, same) {
			t.Fatalf("%v has become %v", before, whole)
		}
	}
}

// scribble overwrites the entries and what their slices have, to the end of their capacity.
func scribble(l []api.Entry) {
	l = l[:cap(l)]
	for i := range l {
		for j := range l[i].Raw[:cap(l[i].Raw)] {
			l[i].Raw[:cap(l[i].Raw)][j] = '!'
		}
		for j := range l[i].Peers[:cap(l[i].Peers)] {
			l[i].Peers[:cap(l[i].Peers)][j] = -99
		}
		l[i] = api.Entry{Sender: "nobody"}
	}
}

// R2: a result of Order shares memory with nothing else, neither with the argument nor among its entries nor with another result.
func TestOrderApart(t *testing.T) {
	raw, peers := []byte("abcdef"), []int{1, 2, 3, 4}
	var l []api.Entry
	for i := range 30 {
		e := full(i)
		e.Priority, e.Order = uint64(i%3), i%2
		e.Raw, e.Peers = raw[i%3:4+i%3], peers[:i%5]
		l = append(l, e)
	}
	for n := range len(l) + 1 {
		part := l[:n]
		before, want := copied(part), copied(ordered(part))
		first, second := evict.Order(part), evict.Order(part)
		scribble(first)
		if !slices.EqualFunc(part, before, same) || string(raw) != "abcdef" || !slices.Equal(peers, []int{1, 2, 3, 4}) {
			t.Fatalf("with a result of Order, the argument has become %v", part)
		}
		if !slices.EqualFunc(second, want, same) {
			t.Fatalf("with a result of Order, another one has become %v", second)
		}
		for i := range second {
			scribble(second[i : i+1 : i+1])
			if !slices.EqualFunc(second[i+1:], want[i+1:], same) {
				t.Fatalf("with an entry of Order, others have become %v", second[i+1:])
			}
		}
		third := evict.Order(part)
		for i := range third {
			third[i].Raw, third[i].Peers = append(third[i].Raw, "!!!"...), append(third[i].Peers, -1, -2, -3)
		}
		if !slices.EqualFunc(part, before, same) {
			t.Fatalf("with longer results of Order, the argument has become %v", part)
		}
	}
}

// R2: what the argument becomes later changes no result.
func TestResultsStay(t *testing.T) {
	l := []api.Entry{full(2), full(1), full(3)}
	order := evict.Order(l)
	victims, ok := evict.Select(l, math.MaxUint64, 1, 2, 100)
	scribble(l)
	if !slices.EqualFunc(order, []api.Entry{full(1), full(2), full(3)}, same) {
		t.Errorf("Order = %v", order)
	}
	if !slices.Equal(victims, []api.Key{full(1).Key, full(2).Key}) || !ok {
		t.Errorf("Select = %v, %v", victims, ok)
	}
}

// R2 and R3: two results of Select share no memory, and a call does not depend on those before it.
func TestSelectApart(t *testing.T) {
	l := listed("12345", "11111")
	first, _ := evict.Select(l, 9, 1, 2, 100)
	second, _ := evict.Select(l, 9, 1, 2, 100)
	for i := range first[:cap(first)] {
		first[:cap(first)][i] = api.Key{'!'}
	}
	evict.Select(listed("11111", "11111"), 9, 1, 1, 100)
	evict.Order(listed("54321", "11111"))
	if names(second) != "abcd" {
		t.Errorf("with a result of Select, another one has become %q", names(second))
	}
	if third, ok := evict.Select(l, 9, 1, 2, 100); names(third) != "abcd" || !ok {
		t.Errorf("Select again = %q, %v", names(third), ok)
	}
}

// R4: with false, there are no keys, also if there are candidates that would not be enough.
func TestNothingWithFalse(t *testing.T) {
	for _, x := range []struct{ size, txs, maxBytes int }{{1, 0, 100}, {1, 1, 100}, {99, 9, 50}, {50, 9, 50}, {1, 9, 1}, {1, -5, -5}} {
		if got, ok := evict.Select(listed("1239", "1111"), 9, x.size, x.txs, x.maxBytes); len(got) != 0 || ok {
			t.Errorf("Select with %v = %v, %v", x, got, ok)
		}
	}
}

// R1: a list that is much longer than a pool, ordered, turned around and mixed.
func TestLongLists(t *testing.T) {
	const n = 20000
	l := make([]api.Entry, n)
	for i := range l {
		l[i] = named(string([]byte{byte(i), byte(i >> 8)}), uint64(i), n-i, 1)
	}
	check := func() {
		t.Helper()
		for i, e := range evict.Order(l) {
			if e.Priority != uint64(i) {
				t.Fatalf("at %d stands the entry with the priority %d", i, e.Priority)
			}
		}
		victims, ok := evict.Select(l, n-5, 10, n, n-1000)
		if len(victims) != 1010 || !ok || victims[1009] != (api.Key{1009 & 255, 1009 >> 8}) {
			t.Fatalf("Select = %d keys, %v", len(victims), ok)
		}
		if victims, ok = evict.Select(l, n-5, 10, 5, n); len(victims) != 0 || ok {
			t.Fatalf("Select = %d keys, %v", len(victims), ok)
		}
	}
	check()
	slices.Reverse(l)
	check()
	rand.New(rand.NewSource(28)).Shuffle(n, func(i, j int) { l[i], l[j] = l[j], l[i] })
	check()
}
