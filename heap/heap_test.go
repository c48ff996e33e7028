package heap_test

import (
	"iter"
	"math"
	"runtime"
	"slices"
	"testing"

	"mempool/api"
	"mempool/heap"
)

// comes says what the chapter says of Before.
func comes(a, b api.Item) bool {
	if a.Priority != b.Priority {
		return a.Priority > b.Priority
	}
	if a.Order != b.Order {
		return a.Order < b.Order
	}
	return a.ID < b.ID
}

// both is a heap, and beside it its items in order.
type both struct {
	heap  *heap.Heap
	items []api.Item
}

func fresh() *both {
	return &both{heap: heap.New()}
}

// filled returns a heap behind Push of each item of l.
func filled(t *testing.T, l []api.Item) *both {
	t.Helper()
	b := fresh()
	for _, x := range l {
		b.push(t, x)
	}
	return b
}

// at returns the place of the item with this ID, or -1.
func (b *both) at(id int) int {
	return slices.IndexFunc(b.items, func(x api.Item) bool { return x.ID == id })
}

func (b *both) push(t *testing.T, x api.Item) {
	t.Helper()
	isNew := b.at(x.ID) < 0
	if isNew {
		i := 0
		for i < len(b.items) && comes(b.items[i], x) {
			i++
		}
		b.items = slices.Insert(b.items, i, x)
	}
	if got := b.heap.Push(x); got != isNew {
		t.Fatalf("Push(%v) = %v; want %v", x, got, isNew)
	}
}

// first returns what Peek and Pop should return.
func (b *both) first() (api.Item, bool) {
	if len(b.items) == 0 {
		return api.Item{}, false
	}
	return b.items[0], true
}

func (b *both) peek(t *testing.T) {
	t.Helper()
	want, ok := b.first()
	if got, is := b.heap.Peek(); got != want || is != ok {
		t.Fatalf("Peek = %v, %v; want %v, %v", got, is, want, ok)
	}
}

func (b *both) pop(t *testing.T) {
	t.Helper()
	want, ok := b.first()
	if ok {
		b.items = slices.Delete(b.items, 0, 1)
	}
	if got, is := b.heap.Pop(); got != want || is != ok {
		t.Fatalf("Pop = %v, %v; want %v, %v", got, is, want, ok)
	}
}

func (b *both) remove(t *testing.T, id int) {
	t.Helper()
	i := b.at(id)
	if i >= 0 {
		b.items = slices.Delete(b.items, i, i+1)
	}
	if got := b.heap.Remove(id); got != (i >= 0) {
		t.Fatalf("Remove(%d) = %v; want %v", id, got, i >= 0)
	}
}

// check asks everything that changes nothing, twice, because no answer may change the heap.
func (b *both) check(t *testing.T) {
	t.Helper()
	for range 2 {
		if got := b.heap.Sorted(); !slices.Equal(got, b.items) {
			t.Fatalf("Sorted = %v; want %v", got, b.items)
		}
		if got := b.heap.Len(); got != len(b.items) {
			t.Fatalf("Len = %d; want %d", got, len(b.items))
		}
		b.peek(t)
	}
}

// drain pops until the heap is empty, and once more.
func (b *both) drain(t *testing.T) {
	t.Helper()
	for range len(b.items) + 1 {
		b.peek(t)
		b.pop(t)
		if got := b.heap.Len(); got != len(b.items) {
			t.Fatalf("Len = %d; want %d", got, len(b.items))
		}
	}
	b.check(t)
}

// Ways in which the items of ranked differ.
const (
	byPriority = iota
	byOrder
	byID
	byAll
	ways
)

// ranked returns n items in order. The fields that don't decide disagree with the order, or are equal.
func ranked(way, n int) []api.Item {
	var l []api.Item
	for i := range n {
		mixed := i * 37 % 101 // different for each i below 101
		x := api.Item{ID: mixed, Priority: 7, Order: -3}
		switch way {
		case byPriority:
			x.Priority, x.Order = uint64(n-i), n-i
		case byOrder:
			x.Order = i - n/2
		case byID:
			x.ID = i - n/2
		case byAll:
			x.Priority, x.Order, x.ID = uint64(n-i/4), i/2%2, mixed*2+i%2
			if i%2 == 1 {
				x.ID = l[i-1].ID + 1
			}
		}
		l = append(l, x)
	}
	return l
}

// permutations yields every order of the numbers below n, in a slice that is used again.
func permutations(n int) iter.Seq[[]int] {
	return func(yield func([]int) bool) {
		l := make([]int, n)
		for i := range l {
			l[i] = i
		}
		permute(l, 0, yield)
	}
}

// permute yields every order of l that begins with its first k numbers.
func permute(l []int, k int, yield func([]int) bool) bool {
	if k == len(l) {
		return yield(l)
	}
	for i := k; i < len(l); i++ {
		l[k], l[i] = l[i], l[k]
		if !permute(l, k+1, yield) {
			return false
		}
		l[k], l[i] = l[i], l[k]
	}
	return true
}

// pick returns the items of l at these indexes.
func pick(l []api.Item, indexes []int) []api.Item {
	picked := make([]api.Item, 0, len(indexes))
	for _, i := range indexes {
		picked = append(picked, l[i])
	}
	return picked
}

// tree returns items with these priorities, each with its index as ID. If none is greater than the one at its parent's index, Push of one after the other leaves them in the tree as they are here.
func tree(priorities ...uint64) []api.Item {
	var l []api.Item
	for i, p := range priorities {
		l = append(l, api.Item{ID: i, Priority: p, Order: -i})
	}
	return l
}

// popped returns the IDs of all items in the order in which Pop returns them, or of so many that there is a fault.
func popped(h *heap.Heap) []int {
	var l []int
	for range 100 {
		x, ok := h.Pop()
		if !ok {
			break
		}
		l = append(l, x.ID)
	}
	return l
}

// ids returns the IDs of l.
func ids(l []api.Item) []int {
	var numbers []int
	for _, x := range l {
		numbers = append(numbers, x.ID)
	}
	return numbers
}

// random returns a function that returns a number below n at each call, always the same ones for a seed.
func random(seed int) func(n int) int {
	x := uint64(seed)
	return func(n int) int {
		x = x*6364136223846793005 + 1442695040888963407
		return int(x>>33) % n
	}
}

// The examples of the chapter.
func TestExamples(t *testing.T) {
	l := []api.Item{{ID: 1, Priority: 5, Order: 1}, {ID: 2, Priority: 7, Order: 2}, {ID: 3, Priority: 7, Order: 3}}
	for indexes := range permutations(3) {
		h := heap.New()
		for _, x := range pick(l, indexes) {
			if !h.Push(x) {
				t.Errorf("Push(%v) is false", x)
			}
		}
		if h.Push(api.Item{ID: 2, Priority: 9, Order: 9}) {
			t.Error("Push of a second item with the ID 2 is true")
		}
		if got := ids(h.Sorted()); !slices.Equal(got, []int{2, 3, 1}) {
			t.Errorf("the order is %v", got)
		}
		if !h.Remove(3) {
			t.Error("Remove(3) is false")
		}
		if got := ids(h.Sorted()); !slices.Equal(got, []int{2, 1}) {
			t.Errorf("behind Remove(3) the order is %v", got)
		}
		if got := popped(h); !slices.Equal(got, []int{2, 1}) {
			t.Errorf("popped %v", got)
		}
	}
}

// P9.1: pairs in which one field differs, two, and all three.
func TestBefore(t *testing.T) {
	for _, x := range []struct{ first, second api.Item }{
		{api.Item{Priority: 1}, api.Item{}},
		{api.Item{Priority: 8, Order: 4, ID: 6}, api.Item{Priority: 7, Order: 4, ID: 6}},
		{api.Item{Order: -1}, api.Item{}},
		{api.Item{Priority: 7, Order: 3, ID: 6}, api.Item{Priority: 7, Order: 4, ID: 6}},
		{api.Item{ID: -1}, api.Item{}},
		{api.Item{Priority: 7, Order: 4, ID: 5}, api.Item{Priority: 7, Order: 4, ID: 6}},

		{api.Item{Priority: 8, Order: 3, ID: 6}, api.Item{Priority: 7, Order: 4, ID: 6}},
		{api.Item{Priority: 8, Order: 5, ID: 6}, api.Item{Priority: 7, Order: 4, ID: 6}},
		{api.Item{Priority: 8, Order: 4, ID: 5}, api.Item{Priority: 7, Order: 4, ID: 6}},
		{api.Item{Priority: 8, Order: 4, ID: 7}, api.Item{Priority: 7, Order: 4, ID: 6}},
		{api.Item{Priority: 7, Order: 3, ID: 5}, api.Item{Priority: 7, Order: 4, ID: 6}},
		{api.Item{Priority: 7, Order: 3, ID: 7}, api.Item{Priority: 7, Order: 4, ID: 6}},

		{api.Item{Priority: 8, Order: 3, ID: 5}, api.Item{Priority: 7, Order: 4, ID: 6}},
		{api.Item{Priority: 8, Order: 3, ID: 7}, api.Item{Priority: 7, Order: 4, ID: 6}},
		{api.Item{Priority: 8, Order: 5, ID: 5}, api.Item{Priority: 7, Order: 4, ID: 6}},
		{api.Item{Priority: 8, Order: 5, ID: 7}, api.Item{Priority: 7, Order: 4, ID: 6}},
	} {
		if !heap.Before(x.first, x.second) {
			t.Errorf("Before(%v, %v) is false", x.first, x.second)
		}
		if heap.Before(x.second, x.first) {
			t.Errorf("Before(%v, %v) is true", x.second, x.first)
		}
		if heap.Before(x.first, x.first) || heap.Before(x.second, x.second) {
			t.Errorf("%v or %v comes before itself", x.first, x.second)
		}
	}
}

// corners returns items in order: all of those whose fields are among the ends of their types and some numbers between.
func corners() []api.Item {
	numbers := []int{math.MinInt, math.MinInt + 1, -1 << 62, math.MinInt32, -1, 0, 1, math.MaxInt32, 1 << 32, 1 << 62, math.MaxInt - 1, math.MaxInt}
	var l []api.Item
	for _, priority := range []uint64{math.MaxUint64, math.MaxUint64 - 1, 1<<63 + 1, 1 << 63, 1<<63 - 1, 1 << 53, 1<<32 + 1, 1 << 32, 1<<32 - 1, 2, 1, 0} {
		for _, order := range numbers {
			for _, id := range numbers {
				l = append(l, api.Item{ID: id, Priority: priority, Order: order})
			}
		}
	}
	return l
}

// P9.1: all pairs of items at the ends of the fields.
func TestBeforeAtTheEnds(t *testing.T) {
	l := corners()
	for i, a := range l {
		for j, b := range l {
			if got := heap.Before(a, b); got != (i < j) {
				t.Fatalf("Before(%v, %v) = %v", a, b, got)
			}
		}
	}
}

// P9.1: every bit of each field counts.
func TestBeforeBits(t *testing.T) {
	for _, base := range []api.Item{{}, {ID: 0x5555, Priority: 0x123456789abcdef0, Order: 0x3333}, {ID: -1, Priority: math.MaxUint64, Order: -1}} {
		for bit := range 64 {
			for field := range 3 {
				x := base
				switch field {
				case 0:
					x.Priority ^= 1 << bit
				case 1:
					x.Order ^= 1 << bit
				default:
					x.ID ^= 1 << bit
				}
				if got, want := heap.Before(base, x), comes(base, x); got != want {
					t.Errorf("Before(%v, %v) = %v", base, x, got)
				}
				if got, want := heap.Before(x, base), comes(x, base); got != want {
					t.Errorf("Before(%v, %v) = %v", x, base, got)
				}
			}
		}
	}
}

// P9.4: Before is a total order, by its own results alone.
func TestTotalOrder(t *testing.T) {
	l := []api.Item{{}, {ID: math.MaxInt, Priority: math.MaxUint64, Order: math.MaxInt}, {ID: math.MinInt, Order: math.MinInt}, {ID: math.MinInt, Priority: math.MaxUint64, Order: math.MinInt}}
	for i := range 3 * 3 * 3 {
		l = append(l, api.Item{ID: i % 3, Priority: uint64(i / 3 % 3), Order: i / 9})
	}
	next := random(1)
	for range 40 {
		l = append(l, api.Item{ID: next(1<<31) - 1<<30, Priority: uint64(next(1<<31)) << 33, Order: next(1<<31) - 1<<30})
	}
	for _, a := range l {
		for _, b := range l {
			if heap.Before(a, b) && heap.Before(b, a) {
				t.Errorf("%v and %v come before each other", a, b)
			}
			if (heap.Before(a, b) || heap.Before(b, a)) != (a != b) {
				t.Errorf("%v and %v are not in an order, or equal and in one", a, b)
			}
			for _, c := range l {
				if heap.Before(a, b) && heap.Before(b, c) && !heap.Before(a, c) {
					t.Errorf("%v comes before %v, this before %v, but the first not before the last", a, b, c)
				}
			}
		}
	}
}

// P9.2: a heap is empty at first.
func TestNew(t *testing.T) {
	b := fresh()
	b.check(t)
	b.pop(t)
	for _, id := range []int{math.MinInt, -1, 0, 1, math.MaxInt} {
		b.remove(t, id)
	}
	b.check(t)
	b.push(t, api.Item{})
	b.check(t)
	b.drain(t)
}

// P9.2: Push of an ID that is there, at every place, with every other field than the item that is there.
func TestPushAgain(t *testing.T) {
	for way := range ways {
		for n := 1; n <= 9; n++ {
			l := ranked(way, n)
			b := filled(t, l)
			for _, x := range l {
				for _, again := range []api.Item{
					x,
					{ID: x.ID, Priority: x.Priority, Order: x.Order - 100},
					{ID: x.ID, Priority: x.Priority, Order: x.Order + 100},
					{ID: x.ID, Priority: 0, Order: x.Order},
					{ID: x.ID, Priority: math.MaxUint64, Order: x.Order},
					{ID: x.ID, Priority: 0, Order: math.MaxInt},
					{ID: x.ID, Priority: math.MaxUint64, Order: math.MinInt},
				} {
					b.push(t, again)
					b.check(t)
				}
			}
			b.drain(t)
		}
	}
}

// P9.2: items with the same priority and order, but other IDs, are all inserted.
func TestPushOfOtherIDs(t *testing.T) {
	b := fresh()
	for _, id := range []int{0, math.MaxInt, -1, math.MinInt, 1, 1 << 32, -1 << 32, math.MaxInt - 1, math.MinInt + 1, math.MaxInt32, math.MinInt32, 2, 1<<32 + 1} {
		b.push(t, api.Item{ID: id, Priority: 4, Order: 4})
		b.check(t)
		b.push(t, api.Item{ID: id, Priority: 5, Order: 3})
		b.check(t)
	}
	b.drain(t)
}

// P9.2: Push of an ID that was popped or removed, with the fields of before and with others.
func TestPushBehindPopAndRemove(t *testing.T) {
	for way := range ways {
		for n := 1; n <= 9; n++ {
			for i, x := range ranked(way, n) {
				for _, again := range []api.Item{x, {ID: x.ID, Priority: 0, Order: 1}, {ID: x.ID, Priority: math.MaxUint64, Order: -1}} {
					b := filled(t, ranked(way, n))
					for range i + 1 {
						b.pop(t)
					}
					b.push(t, again)
					b.check(t)
					b.push(t, x)
					b.drain(t)

					b = filled(t, ranked(way, n))
					b.remove(t, x.ID)
					b.push(t, again)
					b.check(t)
					b.push(t, x)
					b.drain(t)
				}
			}
		}
	}
}

// P9.2: of a heap with no item, with one, with two, and with many; Peek changes nothing.
func TestPeekAndPop(t *testing.T) {
	next := random(2)
	for way := range ways {
		for n := range 40 {
			l := ranked(way, n)
			for range 4 {
				b := filled(t, l)
				for range n + 3 {
					for range 3 {
						b.peek(t)
					}
					b.check(t)
					b.pop(t)
					b.check(t)
				}
				for i := range l {
					j := next(i + 1)
					l[i], l[j] = l[j], l[i]
				}
			}
		}
	}
}

// P9.2: a zero item, which is also what there is beside false, is an item like all others.
func TestZeroItem(t *testing.T) {
	b := fresh()
	b.remove(t, 0)
	b.push(t, api.Item{})
	b.check(t)
	b.push(t, api.Item{})
	b.push(t, api.Item{ID: 1})
	b.push(t, api.Item{ID: -1})
	b.check(t)
	b.pop(t)
	b.check(t)
	b.pop(t)
	b.check(t)
	b.push(t, api.Item{})
	b.remove(t, 1)
	b.check(t)
	b.remove(t, 0)
	b.check(t)
	b.drain(t)
}

// P9.2: every item of heaps of many sizes, the first, the last and the only one among them, and IDs that are not there.
func TestRemove(t *testing.T) {
	for way := range ways {
		for n := range 36 {
			for i := range n {
				l := ranked(way, n)
				b := filled(t, l)
				for _, id := range []int{math.MinInt, -1 << 20, 1 << 20, 1<<32 + l[i].ID, math.MaxInt} {
					b.remove(t, id)
					b.check(t)
				}
				b.remove(t, l[i].ID)
				b.check(t)
				b.remove(t, l[i].ID)
				b.check(t)
				// Its neighbour stands where it stood, or somewhere else by now.
				b.remove(t, l[(i+1)%n].ID)
				b.check(t)
				b.drain(t)
			}
		}
	}
}

// P9.2: the last item of the tree comes to the place of the removed one, and from there has to move up, down, or not at all.
func TestRemoveMoves(t *testing.T) {
	for _, x := range []struct {
		name    string
		items   []api.Item
		remove  int
		ordered []int
	}{
		{"up by one", tree(100, 10, 90, 5, 4, 80, 85), 3, []int{0, 2, 6, 5, 1, 4}},
		{"up by one from a right child", tree(100, 10, 90, 5, 4, 80, 85), 4, []int{0, 2, 6, 5, 1, 3}},
		{"up by two", tree(100, 20, 90, 10, 15, 80, 85, 5, 6, 7, 8, 70, 71, 72, 84), 7, []int{0, 2, 6, 14, 5, 13, 12, 11, 1, 4, 3, 10, 9, 8}},
		{"up by two from a right child", tree(100, 20, 90, 10, 15, 80, 85, 5, 6, 7, 8, 70, 71, 72, 84), 10, []int{0, 2, 6, 14, 5, 13, 12, 11, 1, 4, 3, 9, 8, 7}},
		{"up by one from an inner place", tree(100, 20, 90, 10, 15, 80, 85, 5, 6, 7, 8, 70, 71, 72, 84), 4, []int{0, 2, 6, 14, 5, 13, 12, 11, 1, 3, 10, 9, 8, 7}},
		{"down by one", tree(100, 90, 80, 70, 60, 50, 40), 1, []int{0, 2, 3, 4, 5, 6}},
		{"down by one to a right child", tree(100, 90, 80, 60, 70, 50, 40), 1, []int{0, 2, 4, 3, 5, 6}},
		{"down by two", tree(100, 90, 80, 70, 60, 50, 40), 0, []int{1, 2, 3, 4, 5, 6}},
		{"down by two to right children", tree(100, 80, 90, 50, 60, 40, 70, 45), 0, []int{2, 1, 6, 4, 3, 7, 5}},
		{"down by three", tree(100, 90, 80, 70, 60, 50, 40, 30, 20, 10), 0, []int{1, 2, 3, 4, 5, 6, 7, 8, 9}},
		{"down to an only child", tree(100, 90, 80, 70, 10, 60, 50, 65, 5), 1, []int{0, 2, 3, 7, 5, 6, 4, 8}},
		{"not at all", tree(100, 90, 80, 70, 60, 50, 40), 3, []int{0, 1, 2, 4, 5, 6}},
		{"not at all with children", tree(100, 60, 90, 10, 20, 80, 50), 1, []int{0, 2, 5, 6, 4, 3}},
		{"the last one", tree(100, 90, 80, 70, 60, 50, 40), 6, []int{0, 1, 2, 3, 4, 5}},
		{"the last but one", tree(100, 90, 80, 70, 60, 50, 40), 5, []int{0, 1, 2, 3, 4, 6}},
		{"the first of two", tree(2, 1), 0, []int{1}},
		{"the second of two", tree(2, 1), 1, []int{0}},
		{"the only one", tree(1), 0, nil},
	} {
		b := filled(t, x.items)
		b.remove(t, x.remove)
		b.check(t)
		if got := ids(b.heap.Sorted()); !slices.Equal(got, x.ordered) {
			t.Errorf("%s: Sorted = %v; want %v", x.name, got, x.ordered)
		}
		if got := popped(b.heap); !slices.Equal(got, x.ordered) {
			t.Errorf("%s: popped %v; want %v", x.name, got, x.ordered)
		}
		// Each item can still be removed by its ID, wherever it has moved to.
		for _, id := range x.ordered {
			b = filled(t, x.items)
			b.remove(t, x.remove)
			b.remove(t, id)
			b.check(t)
			b.drain(t)
		}
	}
}

// P9.4: seven items that come in every order, and that were removed one at a time.
func TestEveryOrder(t *testing.T) {
	const n = 7
	for way := range ways {
		l := ranked(way, n)
		for indexes := range permutations(n) {
			h := heap.New()
			for _, i := range indexes {
				h.Push(l[i])
			}
			if got := h.Sorted(); !slices.Equal(got, l) {
				t.Fatalf("pushed as %v: Sorted = %v", indexes, got)
			}
			if got := popped(h); !slices.Equal(got, ids(l)) {
				t.Fatalf("pushed as %v: popped %v; want %v", indexes, got, ids(l))
			}
		}
	}
}

// P9.2 and P9.4: seven items that come in every order, and of which one is removed, then another one.
func TestEveryOrderWithRemove(t *testing.T) {
	const n = 7
	l := ranked(byAll, n)
	for indexes := range permutations(n) {
		for gone := range n {
			b := fresh()
			for _, i := range indexes {
				b.heap.Push(l[i])
			}
			b.items = slices.Clone(l)
			b.remove(t, l[gone].ID)
			b.peek(t)
			b.remove(t, l[(3*gone+indexes[0])%n].ID)
			for range n - 1 {
				b.pop(t)
			}
			b.check(t)
		}
	}
}

// P9.2 to P9.4: all sequences of four operations on heaps with several items.
func TestAllSequences(t *testing.T) {
	pushed := []api.Item{{ID: 0, Priority: 9, Order: 2}, {ID: 1, Priority: 5, Order: 1}, {ID: 2, Priority: 5, Order: 1}, {ID: 3, Priority: 7, Order: -1}, {ID: 1, Priority: 10}, {ID: 3, Order: 9}}
	const length = 4
	// A Push of each of these items, Remove of the IDs from -1 to 4, Pop and Peek.
	kinds := len(pushed) + 8
	all := 1
	for range length {
		all *= kinds
	}
	for _, l := range [][]api.Item{nil, tree(8), tree(8, 6), tree(6, 5, 4), tree(9, 7, 8, 6, 5), tree(9, 2, 8, 1, 1, 7, 8)} {
		for sequence := range all {
			b := filled(t, l)
			for i, rest := 0, sequence; i < length; i, rest = i+1, rest/kinds {
				switch k := rest % kinds; {
				case k < len(pushed):
					b.push(t, pushed[k])
				case k < len(pushed)+6:
					b.remove(t, k-len(pushed)-1)
				case k == kinds-2:
					b.pop(t)
				default:
					b.peek(t)
				}
			}
			b.drain(t)
		}
	}
}

// source returns a function that returns an item at each call: with one of n IDs, and fields that are often equal, often different, or at the ends of their types.
func source(next func(int) int, n, spread int) func() api.Item {
	far := []int{math.MinInt, math.MinInt + 1, -1, 0, 1, math.MaxInt - 1, math.MaxInt}
	return func() api.Item {
		x := api.Item{ID: next(n) - n/2, Priority: uint64(next(spread)), Order: next(spread) - spread/2}
		if next(10) == 0 {
			x.Priority = -x.Priority
		}
		if next(10) == 0 {
			x.Order = far[next(len(far))]
		}
		if next(10) == 0 {
			x.ID = far[next(len(far))]
		}
		return x
	}
}

// P9.2 to P9.4: long sequences, asked behind every step.
func TestLongSequences(t *testing.T) {
	for seed, n := range []int{1, 2, 2, 3, 4, 5, 6, 8, 10, 13, 20, 31, 32, 33, 64, 100, 200, 300} {
		for _, spread := range []int{1, 3, 1 << 20} {
			next := random(seed + spread)
			item := source(next, n, spread)
			b := fresh()
			for i := range 1500 {
				// In turn mostly new items, and more that go.
				switch growing, x := i/(3*n+20)%2 == 0, next(100); {
				case x < 35 || x < 65 && growing:
					b.push(t, item())
				case x < 70:
					b.pop(t)
				case x < 80:
					b.peek(t)
				case x < 95 && len(b.items) > 0:
					b.remove(t, b.items[next(len(b.items))].ID)
				default:
					b.remove(t, item().ID)
				}
				b.check(t)
			}
			b.drain(t)
		}
	}
}

// P9.2 to P9.4: heaps that are emptied by Pop, by Remove or by both, and filled again.
func TestFilledAgain(t *testing.T) {
	for way := range ways {
		for n := range 20 {
			l := ranked(way, n)
			b := fresh()
			for round := range 6 {
				for i := range l {
					b.push(t, l[(i*(round+1)+round)%n])
				}
				for i := range l {
					b.push(t, l[n-1-i])
				}
				b.check(t)
				for i := range l {
					switch {
					case round%3 == 0 || round%3 == 1 && i%2 == 0:
						b.pop(t)
					default:
						b.remove(t, l[(i*7+round)%n].ID)
					}
				}
				for _, x := range l {
					b.remove(t, x.ID)
				}
				b.check(t)
				b.pop(t)
				b.check(t)
			}
		}
	}
}

// P9.4: many items, in order, against it, and mixed.
func TestManyItems(t *testing.T) {
	const n = 50000 // no step has a divisor in common with it, so each of them leads to every item
	var l []api.Item
	for i := range n {
		l = append(l, api.Item{ID: n/2 - i, Priority: uint64(n - i/9), Order: i / 3 % 3})
	}
	slices.SortFunc(l, func(a, b api.Item) int {
		if comes(a, b) {
			return -1
		}
		return 1
	})
	for _, step := range []int{1, n - 1, 3, 7919, 16667} {
		h := heap.New()
		for i := range n {
			h.Push(l[i*step%n])
		}
		if h.Len() != n || !slices.Equal(h.Sorted(), l) {
			t.Fatalf("step %d: Len = %d, or Sorted is wrong", step, h.Len())
		}
		for i, want := range l {
			if i%3 == 2 {
				if !h.Remove(want.ID) {
					t.Fatalf("step %d: Remove(%d) is false", step, want.ID)
				}
				continue
			}
			if got, ok := h.Pop(); got != want || !ok {
				t.Fatalf("step %d: Pop = %v, %v; want %v", step, got, ok, want)
			}
		}
		if h.Len() != 0 || len(h.Sorted()) != 0 {
			t.Errorf("step %d: %d items are left", step, h.Len())
		}
	}
}

// P9.3: all methods of a nil heap, in any order.
func TestNil(t *testing.T) {
	var h *heap.Heap
	for _, x := range append(ranked(byAll, 5), api.Item{}, api.Item{ID: math.MinInt}, api.Item{ID: math.MaxInt, Priority: math.MaxUint64}) {
		for range 2 {
			if h.Push(x) {
				t.Errorf("Push(%v) is true", x)
			}
			if got, ok := h.Peek(); got != (api.Item{}) || ok {
				t.Errorf("Peek = %v, %v", got, ok)
			}
			if got, ok := h.Pop(); got != (api.Item{}) || ok {
				t.Errorf("Pop = %v, %v", got, ok)
			}
			if h.Remove(x.ID) {
				t.Errorf("Remove(%d) is true", x.ID)
			}
			if len(h.Sorted()) != 0 || h.Len() != 0 {
				t.Errorf("Sorted = %v, Len = %d", h.Sorted(), h.Len())
			}
		}
	}
}

// R2: what Sorted returns shares no memory with the heap, nor with another result, spare capacity included, also if the heap had more items before.
func TestSortedApart(t *testing.T) {
	for way := range ways {
		for n := range 40 {
			for _, left := range []int{n, n / 2, n / 3, min(n, 1), 0} {
				l := ranked(way, n)
				b := filled(t, l)
				for range n - left {
					b.pop(t)
				}
				want := slices.Clone(b.items)
				first, second := b.heap.Sorted(), b.heap.Sorted()
				first = first[:cap(first)]
				for i := range first {
					first[i] = api.Item{ID: 1000 + i, Priority: math.MaxUint64, Order: i}
				}
				if !slices.Equal(second, want) {
					t.Fatalf("another result has changed to %v", second)
				}
				b.check(t)
				for _, x := range l {
					b.push(t, api.Item{ID: x.ID + 5000, Priority: x.Priority, Order: x.Order})
				}
				b.push(t, api.Item{ID: 1000})
				b.remove(t, 1000)
				for _, x := range l {
					b.remove(t, x.ID)
				}
				b.drain(t)
				if !slices.Equal(second, want) {
					t.Fatalf("the heap has changed an earlier result to %v", second)
				}
			}
		}
	}
}

// R3: heaps don't disturb each other, also not by the same IDs.
func TestHeapsApart(t *testing.T) {
	for seed := range 10 {
		next := random(400 + seed)
		item := source(next, 12, 4)
		heaps := []*both{fresh(), fresh(), filled(t, ranked(byAll, 9)), filled(t, ranked(byID, 5))}
		for range 300 {
			b := heaps[next(len(heaps))]
			switch x := item(); next(6) {
			case 0:
				b.pop(t)
			case 1, 2:
				b.remove(t, x.ID)
			default:
				b.push(t, x)
			}
			for _, b := range heaps {
				b.check(t)
			}
		}
		b := fresh()
		b.check(t)
		for _, b := range heaps {
			b.drain(t)
		}
	}
}

// heapSize returns how many bytes are in use.
func heapSize() uint64 {
	var m runtime.MemStats
	runtime.GC()
	runtime.ReadMemStats(&m)
	return m.HeapAlloc
}

// A heap keeps no more than its items, however long it is used: a million items would be 24 MB.
func TestMemory(t *testing.T) {
	h := heap.New()
	before := heapSize()
	for i := range 1000000 {
		if !h.Push(api.Item{ID: i, Priority: uint64(i * 7919 % 1000), Order: i}) {
			t.Fatalf("Push of the new ID %d is false", i)
		}
		switch {
		case i < 100:
		case i%3 == 0:
			h.Remove(i)
		default:
			h.Pop()
		}
	}
	if h.Len() != 100 {
		t.Errorf("Len = %d", h.Len())
	}
	if after := heapSize(); after > before+1<<20 {
		t.Errorf("the heap has grown by %d bytes", after-before)
	}
	runtime.KeepAlive(h)
}
