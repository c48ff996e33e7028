package linked_test

import (
	"math"
	"math/bits"
	"slices"
	"testing"

	"mempool/linked"
)

// pair is an element: a number in a slot.
type pair struct{ slot, value int }

// plain is what the chapter says of a list, kept in plain slices.
type plain struct {
	elements []pair
	freed    []int // the slots without an element, the one that was freed last at the end
	used     int   // slots that were ever used
	most     int   // the greatest number of elements at one time
}

// take returns the slot of a new element.
func (p *plain) take() int {
	p.most = max(p.most, len(p.elements)+1)
	if n := len(p.freed); n > 0 {
		slot := p.freed[n-1]
		p.freed = p.freed[:n-1]
		return slot
	}
	p.used++
	return p.used - 1
}

// at returns the place of the element with this slot, or -1.
func (p *plain) at(slot int) int {
	return slices.IndexFunc(p.elements, func(x pair) bool { return x.slot == slot })
}

// slotAt returns the slot of the element at the place i, or -1 if there is none.
func (p *plain) slotAt(i int) int {
	if i < 0 || i >= len(p.elements) {
		return -1
	}
	return p.elements[i].slot
}

// values returns the numbers in order.
func (p *plain) values() []int {
	var l []int
	for _, x := range p.elements {
		l = append(l, x.value)
	}
	return l
}

// slots returns the slots in order.
func (p *plain) slots() []int {
	var l []int
	for _, x := range p.elements {
		l = append(l, x.slot)
	}
	return l
}

// both is a list, and beside it what it should be.
type both struct {
	list  *linked.List
	plain plain
}

func fresh() *both {
	return &both{list: linked.New()}
}

// filled returns a list with the numbers 0, 10, 20 and so on in the slots 0, 1, 2 and so on.
func filled(t *testing.T, n int) *both {
	t.Helper()
	b := fresh()
	for i := range n {
		b.pushBack(t, 10*i)
	}
	return b
}

func (b *both) pushBack(t *testing.T, v int) {
	t.Helper()
	want := b.plain.take()
	b.plain.elements = append(b.plain.elements, pair{want, v})
	if got := b.list.PushBack(v); got != want {
		t.Fatalf("PushBack(%d) = %d; want %d", v, got, want)
	}
}

func (b *both) pushFront(t *testing.T, v int) {
	t.Helper()
	want := b.plain.take()
	b.plain.elements = slices.Insert(b.plain.elements, 0, pair{want, v})
	if got := b.list.PushFront(v); got != want {
		t.Fatalf("PushFront(%d) = %d; want %d", v, got, want)
	}
}

func (b *both) remove(t *testing.T, slot int) {
	t.Helper()
	i := b.plain.at(slot)
	if i >= 0 {
		b.plain.elements = slices.Delete(b.plain.elements, i, i+1)
		b.plain.freed = append(b.plain.freed, slot)
	}
	if got := b.list.Remove(slot); got != (i >= 0) {
		t.Fatalf("Remove(%d) = %v", slot, got)
	}
}

func (b *both) moveToBack(t *testing.T, slot int) {
	t.Helper()
	i := b.plain.at(slot)
	if i >= 0 {
		x := b.plain.elements[i]
		b.plain.elements = append(slices.Delete(b.plain.elements, i, i+1), x)
	}
	if got := b.list.MoveToBack(slot); got != (i >= 0) {
		t.Fatalf("MoveToBack(%d) = %v", slot, got)
	}
}

// check asks the list everything and compares it with what it should be, twice, because no answer may change the list.
func (b *both) check(t *testing.T) {
	t.Helper()
	for range 2 {
		b.checkWhole(t)
		b.checkWalks(t)
		for slot := -3; slot < b.plain.used+3; slot++ {
			b.checkSlot(t, slot)
		}
	}
}

// checkWhole checks the results that belong to no slot.
func (b *both) checkWhole(t *testing.T) {
	t.Helper()
	if got, want := b.list.Values(), b.plain.values(); !slices.Equal(got, want) {
		t.Fatalf("Values = %d; want %d", got, want)
	}
	n := len(b.plain.elements)
	if got := b.list.Len(); got != n {
		t.Fatalf("Len = %d; want %d", got, n)
	}
	if got, want := b.list.First(), b.plain.slotAt(0); got != want {
		t.Fatalf("First = %d; want %d", got, want)
	}
	if got, want := b.list.Last(), b.plain.slotAt(n-1); got != want {
		t.Fatalf("Last = %d; want %d", got, want)
	}
}

// checkSlot checks the results that belong to a slot, whether an element has it or not.
func (b *both) checkSlot(t *testing.T, slot int) {
	t.Helper()
	next, prev, value := -1, -1, 0
	i := b.plain.at(slot)
	if i >= 0 {
		next, prev, value = b.plain.slotAt(i+1), b.plain.slotAt(i-1), b.plain.elements[i].value
	}
	if got, ok := b.list.Value(slot); got != value || ok != (i >= 0) {
		t.Fatalf("Value(%d) = %d, %v; want %d", slot, got, ok, value)
	}
	if got := b.list.Next(slot); got != next {
		t.Fatalf("Next(%d) = %d; want %d", slot, got, next)
	}
	if got := b.list.Prev(slot); got != prev {
		t.Fatalf("Prev(%d) = %d; want %d", slot, got, prev)
	}
}

// walk returns the slots from the slot start on, at most one more than most.
func walk(start, most int, step func(int) int) []int {
	var l []int
	for slot := start; slot != -1 && len(l) <= most; slot = step(slot) {
		l = append(l, slot)
	}
	return l
}

// checkWalks checks both walks through the list, and that no slot is used that was not needed.
func (b *both) checkWalks(t *testing.T) {
	t.Helper()
	n := len(b.plain.elements)
	want := b.plain.slots()
	if got := walk(b.list.First(), n, b.list.Next); !slices.Equal(got, want) {
		t.Fatalf("from First by Next = %d; want %d", got, want)
	}
	for _, slot := range want {
		if slot < 0 || slot >= b.plain.most {
			t.Fatalf("the slot %d with at most %d elements at one time", slot, b.plain.most)
		}
	}
	slices.Reverse(want)
	if got := walk(b.list.Last(), n, b.list.Prev); !slices.Equal(got, want) {
		t.Fatalf("from Last by Prev = %d; want %d", got, want)
	}
}

// random returns a function that returns a number below n at each call, always the same ones for a seed.
func random(seed int) func(n int) int {
	x := uint64(seed)
	return func(n int) int {
		x = x*6364136223846793005 + 1442695040888963407
		return int(x>>33) % n
	}
}

// absent returns slots that no list has which ever had at most n elements: some of them become slots if they are cut to fewer bits, or if one is added to them.
func absent(n int) []int {
	l := []int{-1, -2, -n, -n - 1, n, n + 1, 2*n + 1, 1000000, math.MinInt, math.MinInt + 1, math.MaxInt, math.MaxInt - 1}
	for _, width := range []int{8, 16, bits.UintSize / 2, bits.UintSize - 1} {
		for i := range n {
			l = append(l, i+1<<width, i-1<<width)
		}
	}
	return slices.DeleteFunc(l, func(slot int) bool { return slot >= 0 && slot < n })
}

// orders returns all orders of the numbers below n.
func orders(n int) [][]int {
	if n == 0 {
		return [][]int{{}}
	}
	var all [][]int
	for _, l := range orders(n - 1) {
		for i := range n {
			all = append(all, slices.Insert(slices.Clone(l), i, n-1))
		}
	}
	return all
}

// The examples of the chapter.
func TestExamples(t *testing.T) {
	l := linked.New()
	if a, b, ok, c := l.PushBack(7), l.PushBack(8), l.Remove(0), l.PushFront(9); a != 0 || b != 1 || !ok || c != 0 {
		t.Errorf("example 1: the slots %d, %d, %d; Remove = %v", a, b, c, ok)
	}
	if v, ok := l.Value(0); !slices.Equal(l.Values(), []int{9, 8}) || v != 9 || !ok {
		t.Errorf("example 1: %d; %d, %v", l.Values(), v, ok)
	}
	if next := l.Next(1); l.Last() != 1 || next != -1 {
		t.Errorf("example 3: Next(%d) = %d", l.Last(), next)
	}
	l = linked.New()
	l.PushBack(7)
	if !l.MoveToBack(0) || !slices.Equal(l.Values(), []int{7}) || l.First() != 0 || l.Last() != 0 || l.Next(0) != -1 || l.Prev(0) != -1 || l.Len() != 1 {
		t.Errorf("example 2: %d", l.Values())
	}
}

// P7.1 and P7.3
func TestEmpty(t *testing.T) {
	b := fresh()
	b.check(t)
	for _, slot := range append(absent(1), 0) {
		b.remove(t, slot)
		b.moveToBack(t, slot)
		b.checkSlot(t, slot)
	}
	b.check(t)
	b.pushBack(t, 5)
	b.check(t)
}

// P7.1: the slots of elements that are inserted at one end, and their order.
func TestPush(t *testing.T) {
	back, front := linked.New(), linked.New()
	for i, v := range []int{7, 8, 9} {
		if a, b := back.PushBack(v), front.PushFront(v); a != i || b != i {
			t.Errorf("the slots of %d are %d and %d; want %d", v, a, b, i)
		}
	}
	if !slices.Equal(back.Values(), []int{7, 8, 9}) || !slices.Equal(front.Values(), []int{9, 8, 7}) {
		t.Errorf("Values = %d and %d", back.Values(), front.Values())
	}
}

// P7.1: insertions at both ends, in all orders of up to 8 of them.
func TestPushBothEnds(t *testing.T) {
	for ends := range 1 << 8 {
		b := fresh()
		for i := range 8 {
			if ends>>i&1 == 0 {
				b.pushBack(t, 100+i)
			} else {
				b.pushFront(t, 100+i)
			}
			b.check(t)
		}
	}
}

// P7.1 and P7.3: every number can be an element, also more than once, also one that looks like a slot or like none.
func TestNumbers(t *testing.T) {
	numbers := []int{0, 1, -1, -1, 0, 0, 2, 3, math.MinInt, math.MaxInt, math.MinInt + 1, math.MaxInt - 1, math.MaxInt32 + 1, math.MinInt32 - 1, 255, 256}
	b := fresh()
	for _, v := range numbers {
		b.pushBack(t, v)
		b.pushFront(t, v)
		b.check(t)
	}
	for slot := range len(numbers) {
		b.moveToBack(t, 2*slot)
		b.check(t)
	}
	for slot := range len(numbers) {
		b.remove(t, slot)
		b.pushBack(t, numbers[slot])
		b.check(t)
	}
}

// P7.1: the slot that was freed last first, then the one freed before it, and then one that was never used.
func TestFreedSlots(t *testing.T) {
	l := linked.New()
	for i := range 4 {
		l.PushBack(i)
	}
	for _, slot := range []int{2, 0, 3} {
		l.Remove(slot)
	}
	if a, b, c, d := l.PushFront(10), l.PushBack(11), l.PushFront(12), l.PushBack(13); a != 3 || b != 0 || c != 2 || d != 4 {
		t.Errorf("slots = %d, %d, %d, %d; want 3, 0, 2, 4", a, b, c, d)
	}
	if want := []int{12, 10, 1, 11, 13}; !slices.Equal(l.Values(), want) {
		t.Errorf("Values = %d; want %d", l.Values(), want)
	}
	// A slot that is freed between two insertions comes before those that were freed earlier.
	for _, slot := range []int{0, 1} {
		l.Remove(slot)
	}
	if a := l.PushBack(14); a != 1 {
		t.Errorf("slot = %d; want 1", a)
	}
	l.Remove(4)
	if a, b, c := l.PushBack(15), l.PushBack(16), l.PushBack(17); a != 4 || b != 0 || c != 5 {
		t.Errorf("slots = %d, %d, %d; want 4, 0, 5", a, b, c)
	}
}

// P7.1 and P7.2: any slots, freed in any order, are used again in the reverse order, at both ends.
func TestFreedInAllOrders(t *testing.T) {
	for n := 1; n <= 5; n++ {
		for _, order := range orders(n) {
			for m := range n + 1 {
				b := filled(t, n)
				for _, slot := range order[:m] {
					b.remove(t, slot)
					b.check(t)
				}
				for i := range m + 2 {
					if i%2 == 0 {
						b.pushBack(t, 1000+i)
					} else {
						b.pushFront(t, 1000+i)
					}
					b.check(t)
				}
			}
		}
	}
}

// P7.2: the first, the last, an inner and the only element, written out.
func TestRemove(t *testing.T) {
	for _, x := range []struct {
		n, slot int
		values  []int
	}{
		{1, 0, nil},
		{2, 0, []int{10}}, {2, 1, []int{0}},
		{3, 0, []int{10, 20}}, {3, 1, []int{0, 20}}, {3, 2, []int{0, 10}},
		{4, 1, []int{0, 20, 30}}, {4, 2, []int{0, 10, 30}},
	} {
		b := filled(t, x.n)
		if !b.list.Remove(x.slot) || !slices.Equal(b.list.Values(), x.values) || b.list.Len() != x.n-1 {
			t.Errorf("behind Remove(%d) of %d elements: %d", x.slot, x.n, b.list.Values())
		}
		if b.list.Remove(x.slot) || b.list.MoveToBack(x.slot) || !slices.Equal(b.list.Values(), x.values) {
			t.Errorf("behind a second Remove(%d) of %d elements: %d", x.slot, x.n, b.list.Values())
		}
	}
}

// P7.2: the first, the last, an inner and the only element, written out.
func TestMoveToBack(t *testing.T) {
	for _, x := range []struct {
		n, slot int
		values  []int
	}{
		{1, 0, []int{0}},
		{2, 0, []int{10, 0}}, {2, 1, []int{0, 10}},
		{3, 0, []int{10, 20, 0}}, {3, 1, []int{0, 20, 10}}, {3, 2, []int{0, 10, 20}},
		{4, 1, []int{0, 20, 30, 10}}, {4, 2, []int{0, 10, 30, 20}},
	} {
		b := filled(t, x.n)
		for range 2 {
			if !b.list.MoveToBack(x.slot) || !slices.Equal(b.list.Values(), x.values) || b.list.Len() != x.n || b.list.Last() != x.slot {
				t.Errorf("behind MoveToBack(%d) of %d elements: %d", x.slot, x.n, b.list.Values())
			}
		}
		if slot := b.list.PushBack(77); slot != x.n {
			t.Errorf("MoveToBack(%d) of %d elements has freed %d", x.slot, x.n, slot)
		}
	}
}

// P7.2 and P7.3: one removal or move of each element of lists of many lengths; the others keep their slots.
func TestEachElement(t *testing.T) {
	for n := range 9 {
		for slot := range n {
			b := filled(t, n)
			b.remove(t, slot)
			b.check(t)
			b = filled(t, n)
			b.moveToBack(t, slot)
			b.check(t)
			b.pushFront(t, -5)
			b.pushBack(t, -6)
			b.check(t)
		}
	}
}

// P7.2 and P7.3: slots that no element has change nothing, also not which slots are used next.
func TestNoElement(t *testing.T) {
	for n := range 7 {
		for freed := range n + 1 {
			b := filled(t, n)
			for slot := range freed {
				b.remove(t, slot)
			}
			for _, slot := range append(absent(n), slices.Clone(b.plain.freed)...) {
				b.remove(t, slot)
				b.moveToBack(t, slot)
				b.checkSlot(t, slot)
			}
			b.check(t)
			for i := range freed + 2 {
				b.pushBack(t, 7*i)
				b.check(t)
			}
		}
	}
}

// P7.2: a slot that is used again belongs to the new element only.
func TestUsedAgain(t *testing.T) {
	b := filled(t, 3)
	for i := range 10 {
		b.remove(t, 1)
		b.check(t)
		if i%2 == 0 {
			b.pushFront(t, 100+i)
		} else {
			b.pushBack(t, 100+i)
		}
		b.check(t)
		b.moveToBack(t, 1)
		b.check(t)
	}
}

// step carries out the operation k of a row: the two insertions, and then, for each slot from -1 on, its removal and its move.
func (b *both) step(t *testing.T, k, v int) {
	t.Helper()
	switch slot := (k-2)/2 - 1; {
	case k == 0:
		b.pushBack(t, v)
	case k == 1:
		b.pushFront(t, v)
	case k%2 == 0:
		b.remove(t, slot)
	default:
		b.moveToBack(t, slot)
	}
}

// P7.1 to P7.3 and P7.5: all sequences of five operations on an empty list, with the slots from -1 to 3, and every seventh of them on lists of one to three elements.
func TestAllSequences(t *testing.T) {
	const slots, length = 3, 5
	kinds := 2 + 2*(slots+2)
	all := 1
	for range length {
		all *= kinds
	}
	for n := range 4 {
		stride := 1
		if n > 0 {
			stride = 7
		}
		for sequence := 0; sequence < all; sequence += stride {
			b := filled(t, n)
			for i, rest := 0, sequence; i < length; i, rest = i+1, rest/kinds {
				b.step(t, rest%kinds, 100+i)
				b.checkWhole(t)
			}
			b.checkWalks(t)
			for slot := -2; slot <= b.plain.used+1; slot++ {
				b.checkSlot(t, slot)
			}
		}
	}
}

// P7.1 to P7.3 and P7.5: long sequences that let the list grow and shrink, asked behind every step.
func TestLongSequences(t *testing.T) {
	for seed := range 20 {
		next := random(seed)
		b := fresh()
		for i := range 2000 {
			// In turn more insertions, and more removals.
			growing := i/(40+10*seed)%2 == 0
			slot := next(b.plain.used+3) - 1
			switch k := next(10); {
			case k < 2 || k < 4 && growing:
				b.pushBack(t, next(100)-50)
			case k < 3 || k < 6 && growing:
				b.pushFront(t, next(100)-50)
			case k < 8 && !growing || k < 7:
				b.remove(t, slot)
			default:
				b.moveToBack(t, slot)
			}
			b.checkWhole(t)
			b.checkWalks(t)
			b.checkSlot(t, slot)
		}
		b.check(t)
	}
}

// P7.5: a list that never has more than a few elements uses no more slots than these, however long it is used.
func TestFewSlots(t *testing.T) {
	for n := 1; n <= 4; n++ {
		l := linked.New()
		for i := range 1000 {
			if l.Len() == n {
				l.Remove(i % n)
			}
			slot := 0
			if i%3 == 0 {
				slot = l.PushBack(i)
			} else {
				slot = l.PushFront(i)
			}
			l.MoveToBack(i % 2)
			if slot < 0 || slot >= n {
				t.Fatalf("the slot %d with at most %d elements at one time", slot, n)
			}
		}
	}
}

// P7.4: for all methods of a nil list, and all arguments.
func TestNil(t *testing.T) {
	var l *linked.List
	for _, v := range append(absent(3), 0, 1, 2) {
		if a, b := l.PushBack(v), l.PushFront(v); a != -1 || b != -1 {
			t.Errorf("PushBack(%d) = %d, PushFront(%d) = %d", v, a, v, b)
		}
		if l.Remove(v) || l.MoveToBack(v) {
			t.Errorf("Remove or MoveToBack of %d is true", v)
		}
		if x, ok := l.Value(v); x != 0 || ok {
			t.Errorf("Value(%d) = %d, %v", v, x, ok)
		}
		if a, b := l.Next(v), l.Prev(v); a != -1 || b != -1 {
			t.Errorf("Next(%d) = %d, Prev(%d) = %d", v, a, v, b)
		}
		if a, b := l.First(), l.Last(); a != -1 || b != -1 {
			t.Errorf("First = %d, Last = %d", a, b)
		}
		if len(l.Values()) != 0 || l.Len() != 0 {
			t.Errorf("Values = %d, Len = %d", l.Values(), l.Len())
		}
	}
}

// P7.1 to P7.3: a list that was emptied, from the beginning, from the end and from the middle, and filled again.
func TestEmptiedAndFilled(t *testing.T) {
	pick := []func(b *both) int{
		func(b *both) int { return b.list.First() },
		func(b *both) int { return b.list.Last() },
		func(b *both) int { return b.plain.slotAt(len(b.plain.elements) / 2) },
	}
	for _, of := range pick {
		b := filled(t, 6)
		for round := range 5 {
			for b.list.Len() > 0 && len(b.plain.elements) > 0 {
				b.remove(t, of(b))
				b.check(t)
			}
			for _, slot := range append(absent(6), 0, 1, 2, 3, 4, 5) {
				b.remove(t, slot)
				b.moveToBack(t, slot)
			}
			b.check(t)
			for i := range 4 + round {
				if (i+round)%2 == 0 {
					b.pushFront(t, i)
				} else {
					b.pushBack(t, i)
				}
				b.check(t)
			}
		}
	}
}

// R2: what Values returns shares no memory with the list, nor with another result, spare capacity included.
func TestValuesApart(t *testing.T) {
	for n := range 20 {
		b := filled(t, n)
		want := b.plain.values()
		first, second := b.list.Values(), b.list.Values()
		first = first[:cap(first)]
		for i := range first {
			first[i] = -99
		}
		if !slices.Equal(second, want) {
			t.Fatalf("another result has changed to %d", second)
		}
		b.check(t)
		b.pushBack(t, 5)
		b.pushFront(t, 6)
		for slot := range n {
			b.remove(t, slot)
			b.pushFront(t, -slot)
			b.moveToBack(t, slot)
			b.list.Values()
		}
		b.check(t)
		if !slices.Equal(second, want) {
			t.Errorf("the list has changed an earlier result to %d", second)
		}
	}
}

// R3: lists do not depend on one another, also not in the slots that were freed.
func TestListsApart(t *testing.T) {
	a, b := fresh(), filled(t, 8)
	for i := range 20 {
		a.pushBack(t, i)
		b.pushFront(t, -i)
		a.pushFront(t, 2*i)
		a.remove(t, i/2)
		b.remove(t, 7-i%8)
		b.remove(t, i/3)
		a.check(t)
		b.check(t)
		a.pushBack(t, 3*i)
		b.moveToBack(t, i)
		b.pushBack(t, -2*i)
		a.check(t)
		b.check(t)
	}
	c := fresh()
	c.check(t)
	c.pushFront(t, 3)
	c.check(t)
	a.check(t)
	b.check(t)
}

// P7.1 to P7.3: as many elements as none of the other tests has, each of which is reached from its slot at once.
func TestMany(t *testing.T) {
	const n = 1 << 18
	l := linked.New()
	for i := range n {
		if slot := l.PushBack(i); slot != i {
			t.Fatalf("PushBack(%d) = %d", i, slot)
		}
	}
	// The even ones move behind the odd ones, and then the odd ones are removed.
	for i := 0; i < n; i += 2 {
		if !l.MoveToBack(i) {
			t.Fatalf("MoveToBack(%d) is false", i)
		}
	}
	if l.First() != 1 || l.Last() != n-2 || l.Next(n-1) != 0 || l.Prev(0) != n-1 {
		t.Fatalf("First = %d, Last = %d, Next = %d, Prev = %d", l.First(), l.Last(), l.Next(n-1), l.Prev(0))
	}
	for i := 1; i < n; i += 2 {
		if !l.Remove(i) {
			t.Fatalf("Remove(%d) is false", i)
		}
	}
	for i := n - 1; i > 0; i -= 2 {
		if slot := l.PushFront(i); slot != i {
			t.Fatalf("PushFront(%d) = %d", i, slot)
		}
	}
	want := 1
	for _, v := range l.Values() {
		if v != want {
			t.Fatalf("%d instead of %d", v, want)
		}
		if want += 2; want == n+1 {
			want = 0
		}
	}
	if l.Len() != n || l.PushBack(0) != n {
		t.Errorf("Len = %d", l.Len())
	}
}
