package expiry_test

import (
	"math"
	"math/big"
	"math/rand"
	"runtime"
	"slices"
	"testing"

	"mempool/expiry"
)

// when is the height and the time at which a number came, or at which a queue is asked.
type when struct {
	height, time int
}

// both is a queue, and beside it what it should contain.
type both struct {
	queue        *expiry.Queue
	blocks, time int
	plain        map[int]when
}

func fresh(blocks, time int) *both {
	return &both{queue: expiry.New(blocks, time), blocks: blocks, time: time, plain: map[int]when{}}
}

// filled returns a queue with the numbers from 0 on that came at these heights and times.
func filled(t *testing.T, blocks, time int, arrivals ...when) *both {
	t.Helper()
	b := fresh(blocks, time)
	for id, w := range arrivals {
		b.add(t, id, w)
	}
	return b
}

func (b *both) add(t *testing.T, id int, w when) {
	t.Helper()
	_, found := b.plain[id]
	if !found {
		b.plain[id] = w
	}
	if got := b.queue.Add(id, w.height, w.time); got == found {
		t.Fatalf("Add(%d, %d, %d) = %v", id, w.height, w.time, got)
	}
}

func (b *both) remove(t *testing.T, id int) {
	t.Helper()
	_, found := b.plain[id]
	delete(b.plain, id)
	if got := b.queue.Remove(id); got != found {
		t.Fatalf("Remove(%d) = %v", id, got)
	}
}

// exceeds reports, by numbers of any size, whether since is less than now by more than limit, if that is a limit.
func exceeds(since, now, limit int) bool {
	difference := new(big.Int).Sub(big.NewInt(int64(now)), big.NewInt(int64(since)))
	return limit > 0 && difference.Cmp(big.NewInt(int64(limit))) > 0
}

// expired returns what Expired should return.
func (b *both) expired(now when) []int {
	var ids []int
	for id, w := range b.plain {
		if exceeds(w.height, now.height, b.blocks) || exceeds(w.time, now.time, b.time) {
			ids = append(ids, id)
		}
	}
	slices.Sort(ids)
	return ids
}

// check asks the queue twice, because no answer may change it.
func (b *both) check(t *testing.T, now when) {
	t.Helper()
	want := b.expired(now)
	for range 2 {
		if got := b.queue.Expired(now.height, now.time); !slices.Equal(got, want) {
			t.Fatalf("with the limits %d and %d and the arrivals %v, Expired(%d, %d) = %v; want %v", b.blocks, b.time, b.plain, now.height, now.time, got, want)
		}
		if got := b.queue.Len(); got != len(b.plain) {
			t.Fatalf("Len = %d; want %d", got, len(b.plain))
		}
	}
}

// checkAll asks the queue at every height of a list together with every time of it.
func (b *both) checkAll(t *testing.T, l []int) {
	t.Helper()
	for _, height := range l {
		for _, time := range l {
			b.check(t, when{height, time})
		}
	}
}

// empty removes everything, in the order that r gives, and checks behind every step.
func (b *both) empty(t *testing.T, r *rand.Rand, now when) {
	t.Helper()
	var ids []int
	for id := range b.plain {
		ids = append(ids, id)
	}
	slices.Sort(ids)
	for _, i := range r.Perm(len(ids)) {
		b.remove(t, ids[i])
		b.check(t, now)
		b.remove(t, ids[i])
	}
	b.checkAll(t, ends())
}

// ends returns numbers at the ends of the integers, around 0, and around their halves.
func ends() []int {
	const least, half, greatest = math.MinInt, 1 << 62, math.MaxInt
	return []int{
		least, least + 1, least + 2, -half - 1, -half, -half + 1, -1 << 32, -2, -1,
		0, 1, 2, 1 << 32, half - 1, half, half + 1, greatest - 2, greatest - 1, greatest,
	}
}

// The examples of the chapter.
func TestExamples(t *testing.T) {
	q := expiry.New(2, 0)
	q.Add(4, 5, 0)
	if got := q.Expired(7, 0); len(got) != 0 {
		t.Errorf("example 1: %v at 7", got)
	}
	if got := q.Expired(8, 0); !slices.Equal(got, []int{4}) {
		t.Errorf("example 1: %v at 8", got)
	}
	q = expiry.New(0, 0)
	q.Add(4, math.MinInt, math.MinInt)
	if got := q.Expired(math.MaxInt, math.MaxInt); len(got) != 0 {
		t.Errorf("example 2: %v", got)
	}
	q = expiry.New(0, 1)
	q.Add(4, 0, -1<<63)
	if got := q.Expired(0, 0); !slices.Equal(got, []int{4}) {
		t.Errorf("example 3: %v", got)
	}
}

// P18.1: a queue is empty at first, whatever its limits are.
func TestNew(t *testing.T) {
	for _, blocks := range ends() {
		for _, time := range ends() {
			b := fresh(blocks, time)
			b.check(t, when{math.MaxInt, math.MaxInt})
			b.remove(t, 0)
			b.add(t, 0, when{math.MinInt, math.MinInt})
			b.check(t, when{0, 0})
			b.check(t, when{math.MinInt, math.MinInt})
		}
	}
}

// P18.1 and P18.2: 0 and numbers below are no limit, of blocks, of time, and of both.
func TestWithoutLimit(t *testing.T) {
	for _, none := range []int{0, -1, -2, -1 << 32, math.MinInt + 1, math.MinInt} {
		b := filled(t, none, none, when{0, 0}, when{-9, 4}, when{4, -9}, when{math.MinInt, math.MinInt})
		b.checkAll(t, ends())
		if got := b.queue.Expired(math.MaxInt, math.MaxInt); len(got) != 0 {
			t.Errorf("without limits, %v has expired", got)
		}
		for _, limit := range []int{1, 2, math.MaxInt} {
			b = filled(t, none, limit, when{0, 0}, when{-9, 4}, when{4, -9}, when{math.MinInt, math.MaxInt})
			b.checkAll(t, ends())
			if got := b.queue.Expired(math.MaxInt, -9); len(got) != 0 {
				t.Errorf("without a limit of blocks, %v has expired by height", got)
			}
			b = filled(t, limit, none, when{0, 0}, when{-9, 4}, when{4, -9}, when{math.MaxInt, math.MinInt})
			b.checkAll(t, ends())
			if got := b.queue.Expired(-9, math.MaxInt); len(got) != 0 {
				t.Errorf("without a limit of time, %v has expired by time", got)
			}
		}
	}
}

// P18.1: Add returns false for a number that is there, and its height and time stay.
func TestAddAgain(t *testing.T) {
	moments := []when{{10, 100}, {10, 90}, {10, 110}, {9, 100}, {11, 100}, {0, 0}, {20, 200}, {math.MinInt, math.MinInt}, {math.MaxInt, math.MaxInt}}
	for n := 1; n < 6; n++ {
		for again := range n {
			for _, w := range moments {
				b := fresh(3, 30)
				for id := range n {
					b.add(t, id, when{10 + id, 100 + 10*id})
				}
				for range 2 {
					b.add(t, again, w)
					for height := 10; height < 20; height++ {
						b.check(t, when{height, 100})
						b.check(t, when{0, 10 * height})
						b.check(t, when{0, 10*height + 1})
					}
				}
				// When it has left, it can come then.
				b.remove(t, again)
				b.add(t, again, w)
				b.add(t, again, when{10 + again, 100 + 10*again})
				for height := 10; height < 20; height++ {
					b.check(t, when{height, 10 * height})
					b.check(t, when{0, 10*height + 1})
				}
			}
		}
	}
}

// P18.1 and P18.2: any number is stored as it is, and Expired is ascending by numbers, not by heights, times or the order in which they came.
func TestNumbers(t *testing.T) {
	ids := ends()
	for _, id := range ids {
		b := fresh(1, 1)
		b.add(t, id, when{5, 5})
		for _, other := range ids {
			if other != id {
				b.remove(t, other)
			}
		}
		b.check(t, when{7, 5})
		b.check(t, when{5, 7})
		b.check(t, when{7, 7})
		b.check(t, when{6, 6})
		b.remove(t, id)
		b.check(t, when{7, 7})
	}
	for seed := range 30 {
		r := rand.New(rand.NewSource(int64(seed)))
		b := fresh(1, 1)
		heights, times := r.Perm(len(ids)), r.Perm(len(ids))
		for _, i := range r.Perm(len(ids)) {
			b.add(t, ids[i], when{heights[i], times[i]})
		}
		for now := range len(ids) + 3 {
			b.check(t, when{now, 0})
			b.check(t, when{0, now})
			b.check(t, when{now, now})
			b.check(t, when{now, len(ids) + 2 - now})
		}
		if got := b.queue.Expired(100, 100); !slices.Equal(got, ids) {
			t.Fatalf("Expired = %v; want %v", got, ids)
		}
		b.empty(t, r, when{10, 10})
	}
}

// P18.2: written out: what has come waits for exactly the limit, and not for one more.
func TestExpired(t *testing.T) {
	q := expiry.New(3, 20)
	q.Add(9, 1, 100)
	q.Add(-4, 2, 90)
	q.Add(7, 3, 95)
	q.Add(5, 1, 101)
	for _, c := range []struct {
		height, time int
		want         []int
	}{
		{0, 0, nil}, {4, 0, nil}, {5, 0, []int{5, 9}}, {6, 0, []int{-4, 5, 9}}, {7, 0, []int{-4, 5, 7, 9}}, {100, 0, []int{-4, 5, 7, 9}},
		{0, 110, nil}, {0, 111, []int{-4}}, {0, 115, []int{-4}}, {0, 116, []int{-4, 7}}, {0, 120, []int{-4, 7}}, {0, 121, []int{-4, 7, 9}}, {0, 122, []int{-4, 5, 7, 9}},
		{4, 110, nil}, {4, 111, []int{-4}}, {5, 110, []int{5, 9}}, {5, 111, []int{-4, 5, 9}}, {5, 116, []int{-4, 5, 7, 9}}, {6, 111, []int{-4, 5, 9}}, {6, 116, []int{-4, 5, 7, 9}}, {5, 121, []int{-4, 5, 7, 9}},
		{-1000, -1000, nil}, {math.MinInt, math.MinInt, nil}, {math.MaxInt, math.MinInt, []int{-4, 5, 7, 9}}, {math.MinInt, math.MaxInt, []int{-4, 5, 7, 9}}, {math.MaxInt, math.MaxInt, []int{-4, 5, 7, 9}},
	} {
		if got := q.Expired(c.height, c.time); !slices.Equal(got, c.want) || q.Len() != 4 {
			t.Errorf("Expired(%d, %d) = %v; want %v", c.height, c.time, got, c.want)
		}
	}
}

// P18.2: differences and limits of every size, as exact numbers, by height and by time.
func TestExact(t *testing.T) {
	l := ends()
	for _, limit := range l {
		for _, since := range l {
			for _, now := range l {
				want := exceeds(since, now, limit)
				byHeight, byTime := expiry.New(limit, 0), expiry.New(0, limit)
				byHeight.Add(1, since, 0)
				byTime.Add(1, 0, since)
				if got := byHeight.Expired(now, 0); len(got) == 1 != want {
					t.Errorf("by blocks with the limit %d, from the height %d on, Expired(%d) = %v", limit, since, now, got)
				}
				if got := byTime.Expired(0, now); len(got) == 1 != want {
					t.Errorf("by time with the limit %d, from the time %d on, Expired(%d) = %v", limit, since, now, got)
				}
			}
		}
	}
}

// P18.2: all numbers at once, which came at the ends of the integers, and one exactly at the limit before each of them.
func TestExactTogether(t *testing.T) {
	l := ends()
	for _, limit := range []int{1, 2, 1 << 32, 1<<62 - 1, 1 << 62, 1<<62 + 1, math.MaxInt - 1, math.MaxInt} {
		b := fresh(limit, limit)
		for i, since := range l {
			b.add(t, i, when{since, since})
			b.add(t, 100+i, when{since, math.MaxInt})
			b.add(t, 200+i, when{math.MaxInt, since})
		}
		now := slices.Clone(l)
		for _, since := range l {
			// The sum may wrap around, which gives other numbers to ask for.
			now = append(now, since+limit, since+limit+1)
		}
		b.checkAll(t, now)
	}
}

// P18.2: heights and times decide by themselves, in every order of both.
func TestInEveryOrder(t *testing.T) {
	const n = 4
	for heights := range n * n * n * n {
		for times := 0; times < n*n*n*n; times += 3 {
			b := fresh(1, 2)
			for id, h, s := 0, heights, times; id < n; id, h, s = id+1, h/n, s/n {
				b.add(t, 3-id, when{h % n, s % n})
			}
			for now := range n + 3 {
				b.check(t, when{now, now})
				b.check(t, when{now, 3})
				b.check(t, when{2, now})
			}
		}
	}
}

// P18.1: each of several numbers, the first, the last and the only one among them, and what is not there.
func TestRemove(t *testing.T) {
	for n := 1; n < 8; n++ {
		for i := range n {
			// They came at different moments, at the same one, and in the order against that of the numbers.
			for _, step := range []int{1, 0, -1} {
				b := fresh(2, 2)
				for id := range n {
					b.add(t, id, when{step * id, -step * id})
				}
				for _, id := range []int{-1, n, n + 1, math.MinInt, math.MaxInt} {
					b.remove(t, id)
				}
				for range 2 {
					b.remove(t, i)
					for now := -n; now < n+4; now++ {
						b.check(t, when{now, -n})
						b.check(t, when{-n, now})
						b.check(t, when{now, now})
					}
				}
				b.add(t, i, when{1, 1})
				b.remove(t, (i+1)%n)
				for now := -n; now < n+4; now++ {
					b.check(t, when{now, now})
				}
				b.empty(t, rand.New(rand.NewSource(int64(n))), when{3, 3})
			}
		}
	}
}

// P18.1 and P18.2: all sequences of four operations on a queue that is empty, and on one that is not, with the limits of both kinds and without.
func TestAllSequences(t *testing.T) {
	const length = 4
	moments := []when{{0, 3}, {2, 2}, {3, 0}}
	ids := []int{-1, 0, 5}
	// Add of each number at each moment, and Remove of each number.
	kinds, all := len(ids)*(len(moments)+1), 1
	for range length {
		all *= kinds
	}
	for _, limits := range []when{{1, 0}, {0, 1}, {2, 1}} {
		for _, there := range [][]int{nil, {5, -1}} {
			for word := range all {
				b := fresh(limits.height, limits.time)
				for i, id := range there {
					b.add(t, id, when{1 + i, 2 - i})
				}
				for i, rest := 0, word; i < length; i, rest = i+1, rest/kinds {
					id, k := ids[rest%kinds%len(ids)], rest%kinds/len(ids)
					if k < len(moments) {
						b.add(t, id, moments[k])
					} else {
						b.remove(t, id)
					}
				}
				b.check(t, when{2, 2})
				b.check(t, when{4, 3})
				b.check(t, when{3, 4})
			}
		}
	}
}

// spread returns a function that returns a number at each call, near 0 or near an end of the integers.
func spread(r *rand.Rand, width int) func() int {
	return func() int {
		switch n := r.Intn(width); r.Intn(8) {
		case 0:
			return math.MinInt + n
		case 1:
			return math.MaxInt - n
		case 2:
			return -n
		default:
			return n
		}
	}
}

// P18.1 and P18.2: long sequences, asked behind every step.
func TestLongSequences(t *testing.T) {
	limits := []int{0, -3, 1, 2, 5, 17, math.MaxInt - 3, math.MaxInt}
	for _, blocks := range limits {
		for _, time := range limits {
			for width := 2; width < 100; width *= 4 {
				r := rand.New(rand.NewSource(int64(width)))
				number := spread(r, width)
				b := fresh(blocks, time)
				for i := range 400 {
					// In turn more numbers that come, and more that go.
					growing := i/(2*width+20)%2 == 0
					if k := r.Intn(100); k < 30 || k < 70 && growing {
						b.add(t, number(), when{number(), number()})
					} else {
						b.remove(t, number())
					}
					b.check(t, when{number(), number()})
				}
				b.checkAll(t, ends())
				b.empty(t, r, when{width, width})
			}
		}
	}
}

// P18.3: by the results of the queue alone, what has expired stays so at every greater height and time, until it is removed.
func TestStaysExpired(t *testing.T) {
	for seed := range 60 {
		r := rand.New(rand.NewSource(int64(seed)))
		number := spread(r, 4+seed)
		limits := []int{0, 1, 3 + seed, math.MaxInt - seed}
		q := expiry.New(limits[r.Intn(4)], limits[r.Intn(4)])
		for id := range 40 {
			q.Add(id, number(), number())
		}
		now := []int{math.MinInt, math.MaxInt}
		for range 20 {
			now = append(now, number())
		}
		slices.Sort(now)
		gone := seed % 40
		for i, height := range now {
			for j, time := range now {
				first := q.Expired(height, time)
				for _, later := range []when{{now[i:][r.Intn(len(now)-i)], time}, {height, now[j:][r.Intn(len(now)-j)]}, {now[min(i+1, len(now)-1)], now[min(j+1, len(now)-1)]}, {math.MaxInt, math.MaxInt}} {
					second := q.Expired(later.height, later.time)
					for _, id := range first {
						if !slices.Contains(second, id) {
							t.Fatalf("%d has expired at %d and %d, but not at %d and %d", id, height, time, later.height, later.time)
						}
					}
				}
				q.Add(gone, number(), number())
			}
		}
		q.Remove(gone)
		if slices.Contains(q.Expired(math.MaxInt, math.MaxInt), gone) {
			t.Fatalf("%d was removed, and has expired", gone)
		}
	}
}

// P18.1 and P18.2: many numbers, which came in the order of heights and against that of times, and mixed.
func TestMany(t *testing.T) {
	const n = 20000 // no step has a divisor in common with it, so each of them leads to every number
	for _, step := range []int{1, n - 1, 7919} {
		q := expiry.New(10, 20)
		for i := range n {
			if j := i * step % n; !q.Add(j, j, n-j) {
				t.Fatalf("step %d: Add of %d is false", step, j)
			}
		}
		for _, now := range []int{0, 10, 11, 12, 5000, n, n + 9, n + 10} {
			byHeight := q.Expired(now, 0)
			if len(byHeight) != max(now-10, 0) || len(byHeight) > 0 && (byHeight[0] != 0 || byHeight[len(byHeight)-1] != now-11) {
				t.Fatalf("step %d: at the height %d, %d numbers have expired", step, now, len(byHeight))
			}
			byTime := q.Expired(0, now)
			if len(byTime) != max(now-21, 0) || len(byTime) > 0 && (byTime[0] != n+21-now || byTime[len(byTime)-1] != n-1) {
				t.Fatalf("step %d: at the time %d, %d numbers have expired", step, now, len(byTime))
			}
		}
		if got := q.Expired(n, n); len(got) != n || !slices.IsSorted(got) || q.Len() != n {
			t.Fatalf("step %d: %d numbers have expired, or they are not ascending", step, len(got))
		}
		for i := range n {
			if j := i * step % n; !q.Remove(j) || q.Remove(j) {
				t.Fatalf("step %d: Remove of %d is wrong", step, j)
			}
		}
		if q.Len() != 0 || len(q.Expired(math.MaxInt, math.MaxInt)) != 0 {
			t.Errorf("step %d: %d numbers are left", step, q.Len())
		}
	}
}

// P18.2: all methods of a nil queue, in any order.
func TestNil(t *testing.T) {
	var q *expiry.Queue
	for _, x := range ends() {
		for _, y := range ends() {
			if q.Add(x, y, y) {
				t.Errorf("Add(%d, %d, %d) is true", x, y, y)
			}
			if got := q.Expired(y, x); len(got) != 0 || q.Len() != 0 {
				t.Errorf("Expired(%d, %d) = %v, Len = %d", y, x, got, q.Len())
			}
			if q.Remove(x) {
				t.Errorf("Remove(%d) is true", x)
			}
		}
	}
	if q != nil {
		t.Error("the nil queue is not nil any more")
	}
}

// R2: what is returned shares no memory with the queue, nor with another result, spare capacity included, also if there were more numbers before.
func TestResultsApart(t *testing.T) {
	for n := range 20 {
		for left := range n + 1 {
			b := fresh(2, 3)
			for id := range n {
				b.add(t, id, when{id, n - id})
			}
			for id := range n - left {
				b.remove(t, id)
			}
			for _, now := range []when{{50, 0}, {0, 50}, {50, 50}, {n/2 + 2, n/2 + 3}} {
				want := b.expired(now)
				first, second := b.queue.Expired(now.height, now.time), b.queue.Expired(now.height, now.time)
				for i := range first[:cap(first)] {
					first[:cap(first)][i] = 9999
				}
				if !slices.Equal(second, want) {
					t.Fatalf("another result has changed to %v; want %v", second, want)
				}
				b.check(t, now)
				// What comes and goes later changes no earlier result.
				for id := range n {
					b.add(t, 100+id, when{-id, id})
					b.remove(t, n-1-id)
					b.check(t, now)
				}
				if !slices.Equal(second, want) {
					t.Fatalf("the queue has changed an earlier result to %v; want %v", second, want)
				}
			}
		}
	}
}

// R3: queues do not disturb each other, also not by the same numbers.
func TestQueuesApart(t *testing.T) {
	for seed := range 10 {
		r := rand.New(rand.NewSource(int64(seed)))
		all := []*both{fresh(2, 3), fresh(2, 3), fresh(0, 1), fresh(4, 0), filled(t, 1, 1, when{3, 4}, when{4, 3})}
		for range 150 {
			b, id := all[r.Intn(len(all))], r.Intn(10)
			if r.Intn(3) > 0 {
				b.add(t, id, when{r.Intn(8), r.Intn(8)})
			} else {
				b.remove(t, id)
			}
			now := when{r.Intn(14), r.Intn(14)}
			for _, b := range all {
				b.check(t, now)
			}
		}
		fresh(2, 3).check(t, when{100, 100})
		for _, b := range all {
			b.empty(t, r, when{5, 5})
		}
	}
}

// used returns how many bytes are in use.
func used() int {
	var m runtime.MemStats
	runtime.GC()
	runtime.ReadMemStats(&m)
	return int(m.HeapAlloc)
}

// A queue keeps nothing of what was removed or refused, nor of what it was asked: each of these would be more than a megabyte.
func TestMemory(t *testing.T) {
	q := expiry.New(5, 5)
	before := used()
	for i := range 200000 {
		if !q.Add(i, i, -i) || q.Add(i, -i, i) || i >= 10 && !q.Remove(i-10) || q.Remove(-1-i) {
			t.Fatalf("Add or Remove of %d", i)
		}
		if got := q.Expired(i, -i); len(got) != min(max(i-5, 0), 4) {
			t.Fatalf("at the height %d, %v has expired", i, got)
		}
	}
	if after := used(); after > before+1<<20 {
		t.Errorf("the queue keeps %d bytes", after-before)
	}
	if q.Len() != 10 {
		t.Errorf("Len = %d", q.Len())
	}
}
