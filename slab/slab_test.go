package slab_test

import (
	"math"
	"math/bits"
	"runtime"
	"slices"
	"strings"
	"testing"

	"mempool/api"
	"mempool/slab"
)

// stored is an entry in a slot.
type stored struct {
	handle api.Handle
	entry  api.Entry
}

// plain is what the chapter says of a store, kept in plain slices.
type plain struct {
	most    int
	entries []stored     // in the order of Add
	freed   []int        // the slots without an entry, the one that was freed last at the end
	uses    []int        // how many entries each slot has had, for all slots that were ever used
	given   []api.Handle // all handles that Add has returned
}

// at returns the place of the entry with this handle, or -1.
func (p *plain) at(h api.Handle) int {
	return slices.IndexFunc(p.entries, func(x stored) bool { return x.handle == h })
}

// add returns what Add of e should return.
func (p *plain) add(e api.Entry) (api.Handle, bool) {
	if len(p.entries) >= p.most {
		return api.Handle{}, false
	}
	slot := len(p.uses)
	if n := len(p.freed); n > 0 {
		slot, p.freed = p.freed[n-1], p.freed[:n-1]
	} else {
		p.uses = append(p.uses, 0)
	}
	h := api.Handle{Slot: slot, Use: p.uses[slot]}
	p.uses[slot]++
	p.entries = append(p.entries, stored{h, own(e)})
	p.given = append(p.given, h)
	return h, true
}

// handles returns the handles of all entries, ascending by Slot.
func (p *plain) handles() []api.Handle {
	var l []api.Handle
	for slot, uses := range p.uses {
		if h := (api.Handle{Slot: slot, Use: uses - 1}); p.at(h) >= 0 {
			l = append(l, h)
		}
	}
	return l
}

// size returns the number of bytes of all Raw.
func (p *plain) size() int {
	sum := 0
	for _, x := range p.entries {
		sum += len(x.entry.Raw)
	}
	return sum
}

// own returns e with slices that nothing else has.
func own(e api.Entry) api.Entry {
	e.Raw, e.Peers = slices.Clone(e.Raw), slices.Clone(e.Peers)
	return e
}

// same reports whether all fields of a and b are equal.
func same(a, b api.Entry) bool {
	return a.Key == b.Key && slices.Equal(a.Raw, b.Raw) && a.Sender == b.Sender &&
		a.Sequence == b.Sequence && a.Gas == b.Gas && a.Priority == b.Priority &&
		a.Height == b.Height && a.Time == b.Time && a.Order == b.Order &&
		slices.Equal(a.Peers, b.Peers)
}

// both is a store, and beside it what it should be.
type both struct {
	store *slab.Store
	plain plain
}

// fresh returns New(most), for a number that New takes as it is.
func fresh(most int) *both {
	return &both{store: slab.New(most), plain: plain{most: most}}
}

// filled returns a store for most entries, with n of them.
func filled(t *testing.T, most, n int) *both {
	t.Helper()
	b := fresh(most)
	for i := range n {
		b.add(t, numbered(i))
	}
	return b
}

// numbered returns an entry that differs in every field from those with other numbers, with i bytes and i + 1 peers.
func numbered(i int) api.Entry {
	e := api.Entry{
		Key:      api.Key{byte(i), byte(i >> 8), 31: byte(i + 1)},
		Raw:      []byte(strings.Repeat(string(rune('a'+i%26)), i)),
		Sender:   "sender" + string(rune('a'+i%26)),
		Sequence: uint64(i + 100), Gas: uint64(i + 200), Priority: uint64(i + 300),
		Height: i + 400, Time: i + 500, Order: i + 600,
	}
	for peer := range i + 1 {
		e.Peers = append(e.Peers, 10*i+peer)
	}
	return e
}

// sized returns an entry whose Raw has n bytes.
func sized(n int) api.Entry {
	return api.Entry{Raw: make([]byte, n), Order: n}
}

func (b *both) add(t *testing.T, e api.Entry) api.Handle {
	t.Helper()
	want, ok := b.plain.add(e)
	got, is := b.store.Add(e)
	if got != want || is != ok {
		t.Fatalf("Add = %v, %v; want %v, %v", got, is, want, ok)
	}
	return got
}

func (b *both) remove(t *testing.T, h api.Handle) {
	t.Helper()
	i := b.plain.at(h)
	if i >= 0 {
		b.plain.entries = slices.Delete(b.plain.entries, i, i+1)
		b.plain.freed = append(b.plain.freed, h.Slot)
	}
	if got := b.store.Remove(h); got != (i >= 0) {
		t.Fatalf("Remove(%v) = %v; want %v", h, got, i >= 0)
	}
}

func (b *both) get(t *testing.T, h api.Handle) {
	t.Helper()
	var want api.Entry
	i := b.plain.at(h)
	if i >= 0 {
		want = b.plain.entries[i].entry
	}
	if got, ok := b.store.Get(h); !same(got, want) || ok != (i >= 0) {
		t.Fatalf("Get(%v) = %v, %v; want %v, %v", h, got, ok, want, i >= 0)
	}
}

// checkWhole checks the results that belong to no handle.
func (b *both) checkWhole(t *testing.T) {
	t.Helper()
	if got, want := b.store.Handles(), b.plain.handles(); !slices.Equal(got, want) {
		t.Fatalf("Handles = %v; want %v", got, want)
	}
	if got, want := b.store.Len(), len(b.plain.entries); got != want {
		t.Fatalf("Len = %d; want %d", got, want)
	}
	if got, want := b.store.Bytes(), b.plain.size(); got != want {
		t.Fatalf("Bytes = %d; want %d", got, want)
	}
}

// checkSlots asks for the first uses of all slots, whether they were used or not.
func (b *both) checkSlots(t *testing.T) {
	t.Helper()
	for slot := -1; slot < len(b.plain.uses)+2; slot++ {
		for use := -1; use < 4; use++ {
			b.get(t, api.Handle{Slot: slot, Use: use})
		}
	}
}

// check asks the store everything, also for each handle that it has ever returned, twice, because no answer may change the store.
func (b *both) check(t *testing.T) {
	t.Helper()
	for range 2 {
		b.checkWhole(t)
		b.checkSlots(t)
		for _, h := range b.plain.given {
			b.get(t, h)
		}
		for slot, uses := range b.plain.uses {
			b.get(t, api.Handle{Slot: slot, Use: uses})
			b.get(t, api.Handle{Slot: slot, Use: uses + 1})
		}
	}
}

// wrong returns handles that no store has which has used fewer than n slots, each fewer than 8 times: some of them become valid if their numbers are cut to fewer bits or negated.
func wrong(n int) []api.Handle {
	var l []api.Handle
	far := []int{-1, -2, -n, -n - 1, math.MinInt, math.MinInt + 1, math.MaxInt, math.MaxInt - 1}
	for _, width := range []int{8, 16, bits.UintSize / 2, bits.UintSize - 1} {
		far = append(far, 1<<width, 1<<width+1, -1<<width, -1<<width+1)
	}
	for _, x := range far {
		for i := range n {
			l = append(l, api.Handle{Slot: x, Use: i}, api.Handle{Slot: i, Use: x}, api.Handle{Slot: x + i, Use: x})
		}
	}
	for i := range n {
		l = append(l, api.Handle{Slot: n + i}, api.Handle{Slot: n + i, Use: 1}, api.Handle{Slot: i, Use: 8 + i})
	}
	return slices.DeleteFunc(l, func(h api.Handle) bool { return h.Slot >= 0 && h.Slot < n && h.Use >= 0 && h.Use < 8 })
}

// orders returns all orders of the numbers below n.
func orders(n int) [][]int {
	if n == 0 {
		return [][]int{{}}
	}
	var all [][]int
	for _, l := range orders(n - 1) {
		for i := range n {
			all = append(all, slices.Insert(slices.Clone(l), i, n-1))
		}
	}
	return all
}

// random returns a function that returns a number below n at each call, always the same ones for a seed.
func random(seed int) func(n int) int {
	x := uint64(seed)
	return func(n int) int {
		x = x*6364136223846793005 + 1442695040888963407
		return int(x>>33) % n
	}
}

// The examples of the chapter.
func TestExamples(t *testing.T) {
	s := slab.New(5)
	first, _ := s.Add(sized(1))
	removed := s.Remove(first)
	second, ok := s.Add(sized(2))
	if first != (api.Handle{}) || !removed || second != (api.Handle{Slot: 0, Use: 1}) || !ok {
		t.Errorf("example 1: %v; %v; %v, %v", first, removed, second, ok)
	}
	if e, ok := s.Get(api.Handle{}); !same(e, api.Entry{}) || ok {
		t.Errorf("example 2: %v, %v", e, ok)
	}
	if e, ok := s.Get(second); len(e.Raw) != 2 || !ok {
		t.Errorf("example 2: %v, %v", e, ok)
	}
	for range 3 {
		if h, ok := slab.New(0).Add(sized(1)); h != (api.Handle{}) || ok {
			t.Errorf("example 3: %v, %v", h, ok)
		}
	}
}

// P16.1: how many entries there is room for, at once and again when some were removed.
func TestSizes(t *testing.T) {
	for _, x := range []struct{ given, most int }{
		{math.MinInt, 0}, {math.MinInt + 1, 0}, {math.MinInt32, 0}, {-api.MaxEntries, 0}, {-2, 0}, {-1, 0}, {0, 0},
		{1, 1}, {2, 2}, {3, 3}, {10, 10}, {255, 255}, {256, 256}, {257, 257}, {500, 500},
		{api.MaxEntries - 1, api.MaxEntries - 1}, {api.MaxEntries, api.MaxEntries}, {api.MaxEntries + 1, api.MaxEntries}, {2 * api.MaxEntries, api.MaxEntries},
		{1 << 16, api.MaxEntries}, {math.MaxInt32, api.MaxEntries}, {math.MaxInt - 1, api.MaxEntries}, {math.MaxInt, api.MaxEntries},
	} {
		b := &both{store: slab.New(x.given), plain: plain{most: x.most}}
		b.checkWhole(t)
		for i := range x.most + 2 {
			b.add(t, sized(i%5))
		}
		b.checkWhole(t)
		if got := b.store.Len(); got != x.most {
			t.Fatalf("New(%d) has room for %d entries; want %d", x.given, got, x.most)
		}
		for slot := 0; slot < x.most; slot += 3 {
			b.remove(t, api.Handle{Slot: slot})
		}
		b.checkWhole(t)
		for i := range x.most + 2 {
			b.add(t, sized(i%4))
		}
		b.checkWhole(t)
	}
}

// P16.1 and P16.2: a store is empty at first.
func TestNew(t *testing.T) {
	for most := range 4 {
		b := fresh(most)
		b.check(t)
		for _, h := range append(wrong(2), api.Handle{}, api.Handle{Slot: 1}, api.Handle{Use: 1}) {
			b.get(t, h)
			b.remove(t, h)
		}
		b.check(t)
		b.add(t, numbered(3))
		b.check(t)
	}
}

// P16.1: a full store refuses every entry, and is not changed by it, also if its slots were used before.
func TestFull(t *testing.T) {
	for most := range 6 {
		b := filled(t, most, most)
		for round := range 4 {
			for _, e := range []api.Entry{{}, numbered(0), numbered(most), sized(5000)} {
				b.add(t, e)
				b.check(t)
			}
			if most == 0 {
				continue
			}
			// What follows is full again, with an entry in a slot that was used before.
			slot := (round * 7) % most
			b.remove(t, api.Handle{Slot: slot, Use: b.plain.uses[slot] - 1})
			b.check(t)
			b.add(t, numbered(10+round))
			b.check(t)
		}
	}
}

// P16.1 and P16.2: every field of an entry, with ordinary numbers and with those at the ends of the types; entries may be equal, also in their Keys.
func TestFields(t *testing.T) {
	var key api.Key
	for i := range key {
		key[i] = byte(255 - i)
	}
	all := []api.Entry{
		{}, {},
		{Key: key}, {Key: api.Key{31: 1}},
		{Raw: []byte{0}}, {Raw: []byte("\xff\x00\x80abc")}, {Raw: []byte{}}, {Raw: make([]byte, api.MaxTx+1)},
		{Sender: "ann"}, {Sender: strings.Repeat("\xff", 1000)}, {Sender: "\x00"},
		{Sequence: 1}, {Sequence: math.MaxUint64}, {Gas: 1}, {Gas: math.MaxUint64}, {Priority: 1}, {Priority: math.MaxUint64},
		{Height: 1}, {Height: math.MinInt}, {Height: math.MaxInt},
		{Time: 1}, {Time: math.MinInt}, {Time: math.MaxInt},
		{Order: 1}, {Order: math.MinInt}, {Order: math.MaxInt},
		{Peers: []int{1}}, {Peers: []int{}}, {Peers: []int{math.MaxInt, 3, 3, -1, math.MinInt}}, {Peers: make([]int, 1000)},
		numbered(0), numbered(7), numbered(7), numbered(300),
	}
	b := fresh(len(all))
	for _, e := range all {
		alone := fresh(1)
		alone.add(t, e)
		alone.check(t)
		b.add(t, e)
		b.check(t)
	}
	for i := range all {
		b.remove(t, api.Handle{Slot: len(all) - 1 - i})
		b.checkWhole(t)
		b.checkSlots(t)
	}
}

// P16.1: written out, the slot that was freed last first, then the one freed before it, and then one that was never used.
func TestFreedSlots(t *testing.T) {
	s := slab.New(20)
	for range 4 {
		s.Add(sized(1))
	}
	for _, slot := range []int{2, 0, 3} {
		if !s.Remove(api.Handle{Slot: slot}) {
			t.Fatalf("Remove of the slot %d is false", slot)
		}
	}
	for i, want := range []api.Handle{{Slot: 3, Use: 1}, {Slot: 0, Use: 1}, {Slot: 2, Use: 1}, {Slot: 4}} {
		if got, ok := s.Add(sized(1)); got != want || !ok {
			t.Errorf("Add %d = %v, %v; want %v", i, got, ok, want)
		}
	}
	// A slot that is freed between two entries comes before those that were freed earlier.
	s.Remove(api.Handle{Slot: 0, Use: 1})
	s.Remove(api.Handle{Slot: 1})
	if got, _ := s.Add(sized(1)); got != (api.Handle{Slot: 1, Use: 1}) {
		t.Errorf("Add = %v; want the slot 1 for the second time", got)
	}
	s.Remove(api.Handle{Slot: 4})
	for i, want := range []api.Handle{{Slot: 4, Use: 1}, {Slot: 0, Use: 2}, {Slot: 5}} {
		if got, ok := s.Add(sized(1)); got != want || !ok {
			t.Errorf("Add %d = %v, %v; want %v", i, got, ok, want)
		}
	}
	want := []api.Handle{{Slot: 0, Use: 2}, {Slot: 1, Use: 1}, {Slot: 2, Use: 1}, {Slot: 3, Use: 1}, {Slot: 4, Use: 1}, {Slot: 5}}
	if got := s.Handles(); !slices.Equal(got, want) {
		t.Errorf("Handles = %v; want %v", got, want)
	}
}

// P16.1 and P16.2: any slots, freed in any order, are used again in the reverse order.
func TestFreedInAllOrders(t *testing.T) {
	for n := 1; n <= 5; n++ {
		for _, order := range orders(n) {
			for m := range n + 1 {
				b := filled(t, n+1, n)
				for range 2 {
					for _, slot := range order[:m] {
						b.remove(t, api.Handle{Slot: slot, Use: b.plain.uses[slot] - 1})
						b.checkWhole(t)
					}
					b.check(t)
					for i := range m {
						b.add(t, numbered(20+i))
						b.checkWhole(t)
					}
					b.check(t)
				}
				b.add(t, numbered(30))
				b.add(t, numbered(31))
				b.check(t)
			}
		}
	}
}

// P16.2: each entry of stores with several of them; the others keep their handles.
func TestRemove(t *testing.T) {
	for n := 1; n < 9; n++ {
		for slot := range n {
			b := filled(t, 9, n)
			for range 2 {
				b.remove(t, api.Handle{Slot: slot})
				b.check(t)
			}
			// The next handle of the slot is not valid before there is an entry.
			b.remove(t, api.Handle{Slot: slot, Use: 1})
			b.check(t)
			b.add(t, numbered(9))
			b.check(t)
			b.remove(t, api.Handle{Slot: slot})
			b.check(t)
			b.remove(t, api.Handle{Slot: slot, Use: 1})
			b.check(t)
		}
	}
}

// P16.2: handles that no entry has change nothing, also not which slots are used next, and how often they were used.
func TestNoEntry(t *testing.T) {
	for n := range 6 {
		for freed := range n + 1 {
			b := filled(t, 12, n)
			for slot := range freed {
				b.remove(t, api.Handle{Slot: slot})
			}
			for _, h := range append(wrong(n+1), b.plain.given[:freed]...) {
				b.get(t, h)
				b.remove(t, h)
			}
			for slot := range n {
				b.remove(t, api.Handle{Slot: slot, Use: 1})
			}
			b.remove(t, api.Handle{Slot: n})
			b.check(t)
			for i := range freed + 2 {
				b.add(t, numbered(10+i))
				b.check(t)
			}
		}
	}
}

// P16.2: a handle is never valid again, however often its slot is used.
func TestUses(t *testing.T) {
	b := filled(t, 3, 3)
	for i := range 100 {
		slot := i * i % 3
		b.remove(t, api.Handle{Slot: slot, Use: b.plain.uses[slot] - 1})
		for _, h := range b.plain.given {
			b.get(t, h)
			if b.plain.at(h) < 0 {
				b.remove(t, h)
			}
		}
		b.add(t, numbered(i%10))
		b.check(t)
	}
	s := slab.New(1)
	for use := range 70000 {
		h, ok := s.Add(api.Entry{Order: use})
		if h != (api.Handle{Use: use}) || !ok {
			t.Fatalf("Add = %v, %v; want the use %d", h, ok, use)
		}
		for _, old := range []int{use - 1, use + 1, use - 1<<8, use - 1<<16, 0, -use} {
			if h := (api.Handle{Use: old}); old != use && s.Remove(h) {
				t.Fatalf("Remove(%v) is true in the use %d", h, use)
			}
		}
		if e, ok := s.Get(h); e.Order != use || !ok || !s.Remove(h) {
			t.Fatalf("Get(%v) = %v, %v", h, e, ok)
		}
	}
}

// P16.3: the bytes of all Raw and of nothing else, written out.
func TestBytes(t *testing.T) {
	s := slab.New(10)
	for _, x := range []struct {
		entry api.Entry
		sum   int
	}{
		{api.Entry{}, 0},
		{sized(1), 1},
		{api.Entry{Raw: make([]byte, 10, 1000)}, 11},
		{api.Entry{Raw: make([]byte, 0, 1000)}, 11},
		{api.Entry{Sender: "ann", Gas: 50, Peers: []int{1, 2, 3}}, 11},
		{api.Entry{Raw: []byte("äöü")}, 17},
		{sized(api.MaxBytes), 17 + api.MaxBytes},
		{sized(2*api.MaxBytes + 3), 20 + 3*api.MaxBytes},
	} {
		s.Add(x.entry)
		if got := s.Bytes(); got != x.sum {
			t.Errorf("Bytes = %d; want %d", got, x.sum)
		}
	}
	for _, x := range []struct{ slot, sum int }{{6, 20 + 2*api.MaxBytes}, {6, 20 + 2*api.MaxBytes}, {0, 20 + 2*api.MaxBytes}, {2, 10 + 2*api.MaxBytes}, {7, 7}, {5, 1}, {4, 1}, {3, 1}, {1, 0}} {
		s.Remove(api.Handle{Slot: x.slot})
		if got := s.Bytes(); got != x.sum {
			t.Errorf("behind Remove of the slot %d, Bytes = %d; want %d", x.slot, got, x.sum)
		}
	}
}

// P16.3: as many entries as there can be, freed and used again in mixed orders.
func TestMany(t *testing.T) {
	const n = api.MaxEntries // no odd step has a divisor in common with it, so each of them leads to every slot
	b := filled(t, n, 0)
	for round, step := range []int{1, n - 1, 3, 77, 255} {
		for i := range n {
			b.add(t, sized((i*step+round)%50))
		}
		b.checkWhole(t)
		for _, h := range b.store.Handles() {
			b.get(t, h)
		}
		for i := range n {
			slot := (i*step + 7*round) % n
			b.remove(t, api.Handle{Slot: slot, Use: round})
			if i%64 == 0 {
				b.checkWhole(t)
			}
		}
		b.checkWhole(t)
		for _, h := range b.plain.given {
			b.get(t, h)
		}
	}
}

// step carries out the operation k of a row: two different entries that are added, and then the removal of each of the first two uses of the slots from -1 on.
func (b *both) step(t *testing.T, k, i int) {
	t.Helper()
	if k < 2 {
		b.add(t, numbered(1+4*k+i))
		return
	}
	b.remove(t, api.Handle{Slot: (k-2)/2 - 1, Use: k % 2})
}

// P16.1 to P16.3: all sequences of four operations on stores of several sizes with no entries up to as many as they can have.
func TestAllSequences(t *testing.T) {
	const length, kinds = 4, 2 + 2*4
	all := 1
	for range length {
		all *= kinds
	}
	for most := range 4 {
		for n := range most + 1 {
			for sequence := range all {
				b := filled(t, most, n)
				for i, rest := 0, sequence; i < length; i, rest = i+1, rest/kinds {
					b.step(t, rest%kinds, i)
					b.checkWhole(t)
				}
				b.checkSlots(t)
			}
		}
	}
}

// P16.1 to P16.3: long sequences in which the store is filled and emptied, asked behind every step.
func TestLongSequences(t *testing.T) {
	for seed, most := range []int{1, 2, 3, 4, 5, 8, 13, 20, 32, 50, 100, 200} {
		next := random(seed)
		b := fresh(most)
		for i := range 1500 {
			// In turn more entries that come, and more that go.
			growing := i/(2*most+30)%2 == 0
			switch k := next(100); {
			case k < 35 || k < 70 && growing:
				b.add(t, numbered(next(12)))
			case k < 90 && len(b.plain.entries) > 0:
				b.remove(t, b.plain.entries[next(len(b.plain.entries))].handle)
			case k < 95 && len(b.plain.given) > 0:
				b.remove(t, b.plain.given[next(len(b.plain.given))])
			default:
				b.remove(t, api.Handle{Slot: next(most+2) - 1, Use: next(5) - 1})
			}
			b.checkWhole(t)
			b.get(t, api.Handle{Slot: next(most+2) - 1, Use: next(5) - 1})
			for range min(8, len(b.plain.given)) {
				b.get(t, b.plain.given[next(len(b.plain.given))])
			}
		}
		b.check(t)
	}
}

// P16.3: for all methods of a nil store.
func TestNil(t *testing.T) {
	var s *slab.Store
	for _, e := range []api.Entry{{}, numbered(0), numbered(5)} {
		if h, ok := s.Add(e); h != (api.Handle{}) || ok {
			t.Errorf("Add = %v, %v", h, ok)
		}
		for _, h := range append(wrong(2), api.Handle{}, api.Handle{Slot: 1}, api.Handle{Use: 1}) {
			if e, ok := s.Get(h); !same(e, api.Entry{}) || ok {
				t.Errorf("Get(%v) = %v, %v", h, e, ok)
			}
			if s.Remove(h) {
				t.Errorf("Remove(%v) is true", h)
			}
		}
		if len(s.Handles()) != 0 || s.Len() != 0 || s.Bytes() != 0 {
			t.Errorf("Handles = %v, Len = %d, Bytes = %d", s.Handles(), s.Len(), s.Bytes())
		}
	}
	if s != nil {
		t.Error("the nil store is not nil any more")
	}
}

// spoil changes the slices of e, their spare capacity included.
func spoil(e api.Entry) {
	raw, peers := e.Raw[:cap(e.Raw)], e.Peers[:cap(e.Peers)]
	for i := range raw {
		raw[i] ^= 0xff
	}
	for i := range peers {
		peers[i] ^= -1
	}
}

// roomy returns an entry with n bytes and peers, and spare capacity for as many more.
func roomy(n int) api.Entry {
	e := api.Entry{Raw: make([]byte, 2*n+1), Peers: make([]int, 2*n+1), Sender: "ann"}
	for i := range e.Raw {
		e.Raw[i], e.Peers[i] = byte(i+1), i+1
	}
	e.Raw, e.Peers = e.Raw[:n], e.Peers[:n]
	return e
}

// identical reports whether a and b are equal, the spare capacity of their slices included.
func identical(a, b api.Entry) bool {
	return same(a, b) && slices.Equal(a.Raw[:cap(a.Raw)], b.Raw[:cap(b.Raw)]) && slices.Equal(a.Peers[:cap(a.Peers)], b.Peers[:cap(b.Peers)])
}

// P16.4: an entry that is given or returned can be changed, its spare capacity included, and the store and other results stay as they are.
func TestEntriesApart(t *testing.T) {
	for n := range 20 {
		b := fresh(9)
		given, want, spoiled := roomy(n), roomy(n), roomy(n)
		spoil(spoiled)
		h, again := b.add(t, given), b.add(t, given)
		if !identical(given, want) {
			t.Fatalf("Add has changed its argument to %v", given)
		}
		first, _ := b.store.Get(h)
		second, _ := b.store.Get(h)
		third, _ := b.store.Get(again)
		// Nothing is asked between a change and the comparison, because an answer could cover the change.
		spoil(given)
		for _, e := range []api.Entry{first, second, third} {
			if !same(e, want) {
				t.Fatalf("a result has changed to %v with what was given", e)
			}
		}
		b.check(t)
		spoil(first)
		if !same(second, want) || !same(third, want) || !identical(given, spoiled) {
			t.Fatalf("with a result, %v, %v and %v have changed", second, third, given)
		}
		b.check(t)
		// What comes and goes later changes no earlier result.
		for i := range 5 {
			b.remove(t, h)
			h = b.add(t, numbered(i+10))
			b.get(t, h)
			b.remove(t, again)
			again = b.add(t, spoiled)
			b.get(t, again)
			if !same(second, want) || !same(third, want) {
				t.Fatalf("the store has changed earlier results to %v and %v", second, third)
			}
			b.check(t)
		}
	}
}

// P16.4: an entry that comes from one store and goes to another one, or to the same, is shared by none of them.
func TestFromStoreToStore(t *testing.T) {
	for n := range 10 {
		a, b := fresh(4), fresh(4)
		h := a.add(t, roomy(n))
		e, _ := a.store.Get(h)
		b.add(t, e)
		a.add(t, e)
		spoil(e)
		a.check(t)
		b.check(t)
		e, _ = b.store.Get(api.Handle{})
		spoil(e)
		a.remove(t, h)
		a.add(t, numbered(n))
		a.check(t)
		b.check(t)
	}
}

// R2: what Handles returns shares no memory with the store, nor with another result, spare capacity included.
func TestHandlesApart(t *testing.T) {
	for n := range 12 {
		b := filled(t, 12, n)
		want := b.plain.handles()
		first, second := b.store.Handles(), b.store.Handles()
		first = first[:cap(first)]
		for i := range first {
			first[i] = api.Handle{Slot: -9, Use: -9}
		}
		if !slices.Equal(second, want) {
			t.Fatalf("another result has changed to %v", second)
		}
		b.check(t)
		for slot := range n {
			b.remove(t, api.Handle{Slot: slot})
			b.store.Handles()
			b.add(t, numbered(slot))
			b.add(t, numbered(slot+1))
		}
		b.check(t)
		if !slices.Equal(second, want) {
			t.Errorf("the store has changed an earlier result to %v", second)
		}
	}
}

// R3: stores do not disturb one another, also not by their sizes or by the slots that were freed.
func TestStoresApart(t *testing.T) {
	for seed := range 10 {
		next := random(100 + seed)
		all := []*both{fresh(3), fresh(seed), filled(t, 8, 8), fresh(1), filled(t, 20, 5)}
		for i := range 150 {
			b := all[next(len(all))]
			if next(2) == 0 || len(b.plain.entries) == 0 {
				b.add(t, numbered(i%9))
			} else {
				b.remove(t, b.plain.entries[next(len(b.plain.entries))].handle)
			}
			for _, b := range all {
				b.checkWhole(t)
				b.checkSlots(t)
			}
		}
		b := fresh(2)
		b.check(t)
		b.add(t, numbered(2))
		b.check(t)
	}
}

// heapSize returns how many bytes are in use.
func heapSize() uint64 {
	var m runtime.MemStats
	runtime.GC()
	runtime.ReadMemStats(&m)
	return m.HeapAlloc
}

// A store keeps nothing of entries that were removed or refused, and nothing of the memory behind their slices: each of these would be far more than a megabyte.
func TestMemory(t *testing.T) {
	s := slab.New(api.MaxEntries)
	before := heapSize()
	for range 2 {
		for range api.MaxEntries + 50 {
			s.Add(api.Entry{Raw: make([]byte, 1<<15), Peers: make([]int, 1<<12)})
		}
		for _, h := range s.Handles() {
			s.Remove(h)
		}
	}
	if after := heapSize(); after > before+1<<20 {
		t.Errorf("the store keeps %d bytes of entries that were removed", after-before)
	}
	for i := range api.MaxEntries {
		raw, peers := make([]byte, 1<<16), make([]int, 1<<13)
		s.Add(api.Entry{Raw: raw[:i%2], Peers: peers[:i%2]})
	}
	for range 100000 {
		if _, ok := s.Add(sized(10)); ok {
			t.Fatal("Add to a full store is true")
		}
	}
	if after := heapSize(); after > before+1<<20 {
		t.Errorf("the store keeps %d bytes beside its entries", after-before)
	}
	for _, h := range s.Handles() {
		s.Remove(h)
	}
	for range 200000 {
		h, _ := s.Add(sized(10))
		s.Remove(h)
	}
	if after := heapSize(); after > before+1<<20 {
		t.Errorf("the store has grown by %d bytes", after-before)
	}
	if s.Len() != 0 || s.Bytes() != 0 {
		t.Errorf("Len = %d, Bytes = %d", s.Len(), s.Bytes())
	}
}
