package pool_test

import (
	"math"
	"math/big"
	"math/rand"
	"runtime"
	"slices"
	"sort"
	"strings"
	"testing"

	"mempool/api"
	"mempool/config"
	"mempool/pool"
)

// both is a pool, and beside it what it should contain, in the order in which it was inserted.
type both struct {
	pool   *pool.Pool
	limits api.Config
	plain  []api.Entry
}

// fresh returns New(c), for a valid configuration.
func fresh(c api.Config) *both {
	return &both{pool: pool.New(c), limits: c}
}

// sized returns a configuration with room for so many entries and bytes, in which entries may wait for so many blocks and so much time.
func sized(txs, bytes, blocks, time int) api.Config {
	c := config.Default()
	c.MaxTxs, c.MaxBytes, c.TTLBlocks, c.TTLTime = txs, bytes, blocks, time
	return c
}

// numbered returns an entry that differs in every field from those with other numbers, with i bytes and i + 1 peers.
func numbered(i int) api.Entry {
	e := api.Entry{
		Key:      api.Key{byte(i), byte(i >> 8), 31: byte(i + 1)},
		Raw:      []byte(strings.Repeat(string(rune('a'+i%26)), i)),
		Sender:   "sender" + string(rune('a'+i%26)),
		Sequence: uint64(i + 100), Gas: uint64(i + 200), Priority: uint64(i + 300),
		Height: i + 400, Time: i + 500, Order: i + 600,
	}
	for peer := range i + 1 {
		e.Peers = append(e.Peers, 10*i+peer)
	}
	return e
}

// named returns an entry whose Raw is text, and whose Key has no other byte than those of text.
func named(text, sender string, sequence, priority uint64, order int) api.Entry {
	e := api.Entry{Raw: []byte(text), Sender: sender, Sequence: sequence, Priority: priority, Order: order}
	copy(e.Key[:], text)
	return e
}

// same reports whether all fields of a and b are equal.
func same(a, b api.Entry) bool {
	return a.Key == b.Key && slices.Equal(a.Raw, b.Raw) && a.Sender == b.Sender &&
		a.Sequence == b.Sequence && a.Gas == b.Gas && a.Priority == b.Priority &&
		a.Height == b.Height && a.Time == b.Time && a.Order == b.Order &&
		slices.Equal(a.Peers, b.Peers)
}

// sameAll reports whether a and b contain the same entries in the same order.
func sameAll(a, b []api.Entry) bool {
	return slices.EqualFunc(a, b, same)
}

// own returns e with slices that nothing else has.
func own(e api.Entry) api.Entry {
	e.Raw, e.Peers = slices.Clone(e.Raw), slices.Clone(e.Peers)
	return e
}

// texts returns the Raw of a list, for lists that are written out.
func texts(l []api.Entry) string {
	var all []string
	for _, e := range l {
		all = append(all, string(e.Raw))
	}
	return strings.Join(all, " ")
}

// at returns the place of the entry with this key, or -1.
func (b *both) at(k api.Key) int {
	return slices.IndexFunc(b.plain, func(e api.Entry) bool { return e.Key == k })
}

// size returns the number of bytes of all Raw.
func (b *both) size() int {
	sum := 0
	for _, e := range b.plain {
		sum += len(e.Raw)
	}
	return sum
}

// refused returns the error of inserting e.
func (b *both) refused(e api.Entry) api.Errno {
	switch {
	case b.at(e.Key) >= 0:
		return api.ErrDuplicate
	case slices.ContainsFunc(b.plain, func(x api.Entry) bool { return x.Sender == e.Sender && x.Sequence == e.Sequence }):
		return api.ErrState
	case len(b.plain)+1 > b.limits.MaxTxs, b.size()+len(e.Raw) > b.limits.MaxBytes:
		return api.ErrFull
	}
	return api.OK
}

// sorted returns what Sorted should return: a stable sort keeps the order of the insertions.
func (b *both) sorted() []api.Entry {
	l := slices.Clone(b.plain)
	sort.SliceStable(l, func(i, j int) bool {
		if l[i].Priority != l[j].Priority {
			return l[i].Priority > l[j].Priority
		}
		return l[i].Order < l[j].Order
	})
	return l
}

// sender returns what Sender should return.
func (b *both) sender(name string) []api.Entry {
	var l []api.Entry
	for _, e := range b.plain {
		if e.Sender == name {
			l = append(l, e)
		}
	}
	sort.Slice(l, func(i, j int) bool { return l[i].Sequence < l[j].Sequence })
	return l
}

// exceeds reports, by numbers of any size, whether since is less than now by more than limit, if that is a limit.
func exceeds(since, now, limit int) bool {
	difference := new(big.Int).Sub(big.NewInt(int64(now)), big.NewInt(int64(since)))
	return limit > 0 && difference.Cmp(big.NewInt(int64(limit))) > 0
}

// expired returns what Expired should return.
func (b *both) expired(height, time int) []api.Key {
	var keys []api.Key
	for _, e := range b.plain {
		if exceeds(e.Height, height, b.limits.TTLBlocks) || exceeds(e.Time, time, b.limits.TTLTime) {
			keys = append(keys, e.Key)
		}
	}
	return keys
}

func (b *both) insert(t *testing.T, e api.Entry) api.Errno {
	t.Helper()
	want := b.refused(e)
	if want == api.OK {
		b.plain = append(b.plain, own(e))
	}
	if got := b.pool.Insert(own(e)); got != want {
		t.Fatalf("Insert(%v) = %d; want %d", e, got, want)
	}
	return want
}

// insertAll inserts entries that all have to be accepted.
func (b *both) insertAll(t *testing.T, l ...api.Entry) {
	t.Helper()
	for _, e := range l {
		if code := b.insert(t, e); code != api.OK {
			t.Fatalf("Insert(%v) = %d", e, code)
		}
	}
}

func (b *both) remove(t *testing.T, k api.Key) {
	t.Helper()
	i := b.at(k)
	if i >= 0 {
		b.plain = slices.Delete(b.plain, i, i+1)
	}
	if got := b.pool.Remove(k); got != (i >= 0) {
		t.Fatalf("Remove(%v) = %v", k, got)
	}
}

func (b *both) reset() {
	b.plain = nil
	b.pool.Reset()
}

func (b *both) get(t *testing.T, k api.Key) {
	t.Helper()
	var want api.Entry
	i := b.at(k)
	if i >= 0 {
		want = b.plain[i]
	}
	if got, ok := b.pool.Get(k); !same(got, want) || ok != (i >= 0) {
		t.Fatalf("Get(%v) = %v, %v; want %v, %v", k, got, ok, want, i >= 0)
	}
}

func (b *both) checkExpired(t *testing.T, height, time int) {
	t.Helper()
	if got, want := b.pool.Expired(height, time), b.expired(height, time); !slices.Equal(got, want) {
		t.Fatalf("with the limits %d and %d and the entries %v, Expired(%d, %d) = %v; want %v", b.limits.TTLBlocks, b.limits.TTLTime, b.plain, height, time, got, want)
	}
}

// checkLists checks the results that need no argument.
func (b *both) checkLists(t *testing.T) {
	t.Helper()
	if got := b.pool.Entries(); !sameAll(got, b.plain) {
		t.Fatalf("Entries = %v; want %v", got, b.plain)
	}
	if got, want := b.pool.Sorted(), b.sorted(); !sameAll(got, want) {
		t.Fatalf("Sorted = %v; want %v", got, want)
	}
	if got, want := b.pool.Len(), len(b.plain); got != want {
		t.Fatalf("Len = %d; want %d", got, want)
	}
	if got, want := b.pool.Bytes(), b.size(); got != want {
		t.Fatalf("Bytes = %d; want %d", got, want)
	}
}

// check asks the pool everything about what it contains, twice, because no answer may change it.
func (b *both) check(t *testing.T) {
	t.Helper()
	for range 2 {
		b.checkLists(t)
		names := map[string]bool{"": true, "nobody": true, "sende": true, "\xff": true}
		for _, e := range b.plain {
			names[e.Sender] = true
			b.get(t, e.Key)
			b.checkExpired(t, e.Height+b.limits.TTLBlocks, math.MinInt)
			b.checkExpired(t, e.Height+b.limits.TTLBlocks+1, math.MinInt)
			b.checkExpired(t, math.MinInt, e.Time+b.limits.TTLTime)
			b.checkExpired(t, math.MinInt, e.Time+b.limits.TTLTime+1)
		}
		for name := range names {
			if got, want := b.pool.Sender(name), b.sender(name); !sameAll(got, want) {
				t.Fatalf("Sender(%q) = %v; want %v", name, got, want)
			}
		}
		b.get(t, api.Key{})
		b.get(t, api.Key{200, 201})
		b.checkExpired(t, math.MaxInt, math.MaxInt)
	}
}

// rebuilt checks that a pool with the same entries, inserted in the order of Entries, gives the same results, also behind what follows.
func (b *both) rebuilt(t *testing.T, next ...api.Entry) {
	t.Helper()
	other := fresh(b.limits)
	other.insertAll(t, b.pool.Entries()...)
	other.check(t)
	for _, e := range next {
		other.insert(t, e)
		other.checkLists(t)
	}
	for _, e := range b.plain {
		other.remove(t, e.Key)
		other.checkLists(t)
	}
}

// The examples of the chapter.
func TestExamples(t *testing.T) {
	p := pool.New(config.Default())
	if first, second := p.Insert(named("x", "ann", 7, 1, 1)), p.Insert(named("y", "ann", 7, 2, 2)); first != api.OK || second != api.ErrState {
		t.Errorf("example 1: %d, %d", first, second)
	}
	p = pool.New(sized(1, 1000, 0, 0))
	if first, second := p.Insert(named("x", "ann", 7, 1, 1)), p.Insert(named("y", "bob", 7, 2, 2)); first != api.OK || second != api.ErrFull {
		t.Errorf("example 2: %d, %d", first, second)
	}
	p = pool.New(config.Default())
	for i, text := range []string{"x", "y", "z"} {
		p.Insert(named(text, text, 0, 1, i))
	}
	removed := p.Remove(api.Key{'x'})
	again := p.Insert(named("x", "x", 0, 1, 0))
	if got := texts(p.Entries()); !removed || again != api.OK || got != "y z x" {
		t.Errorf("example 3: %v, %d, %s", removed, again, got)
	}
}

// P20.1: a pool is empty at first, whatever the configuration is.
func TestNew(t *testing.T) {
	for _, c := range []api.Config{{}, config.Default(), sized(1, 1, 1, 1), sized(-1, -1, -1, -1), sized(math.MaxInt, math.MaxInt, math.MaxInt, math.MaxInt)} {
		b := &both{pool: pool.New(c), limits: config.Default()}
		b.check(t)
		b.remove(t, api.Key{})
		b.remove(t, api.Key{1})
		b.reset()
		b.check(t)
	}
}

// room returns how many entries without bytes p takes.
func room(p *pool.Pool) int {
	n := 0
	for p.Insert(api.Entry{Key: api.Key{byte(n), byte(n >> 8)}, Sequence: uint64(n)}) == api.OK {
		n++
	}
	return n
}

// P20.1: there is room for MaxTxs entries, also again behind Remove and Reset.
func TestMaxTxs(t *testing.T) {
	for _, most := range []int{1, 2, 3, 10, 99, 100, 101, 255, 256, 257, api.MaxEntries - 1, api.MaxEntries} {
		p := pool.New(sized(most, 1, 0, 0))
		if got := room(p); got != most || p.Len() != most {
			t.Fatalf("with MaxTxs %d there is room for %d entries", most, got)
		}
		for i := 0; i < most; i += 2 {
			p.Remove(api.Key{byte(i), byte(i >> 8)})
		}
		for i := 0; i < most; i += 2 {
			if code := p.Insert(api.Entry{Key: api.Key{2: 1, 3: byte(i), 4: byte(i >> 8)}, Sender: "again", Sequence: uint64(i)}); code != api.OK {
				t.Fatalf("with MaxTxs %d, Insert behind Remove = %d", most, code)
			}
		}
		// The zero key was removed above, and there is room for an entry without bytes.
		if code := p.Insert(named("", "other", 1, 1, 1)); code != api.ErrFull {
			t.Fatalf("with MaxTxs %d, Insert into a full pool = %d", most, code)
		}
		p.Reset()
		if got := room(p); got != most {
			t.Fatalf("with MaxTxs %d there is room for %d entries behind Reset", most, got)
		}
	}
}

// P20.1: there is room for MaxBytes bytes, in one entry or in several ones, also again behind Remove and Reset.
func TestMaxBytes(t *testing.T) {
	for _, most := range []int{1, 2, 3, 10, 255, 256, 65535, 65536, 65537, api.MaxBytes - 1, api.MaxBytes} {
		b := fresh(sized(api.MaxEntries, most, 0, 0))
		entry := func(i, size int) api.Entry {
			return api.Entry{Key: api.Key{byte(i + 1)}, Sequence: uint64(i), Raw: make([]byte, size)}
		}
		step := func(i, size int, want api.Errno) {
			t.Helper()
			if got := b.insert(t, entry(i, size)); got != want {
				t.Fatalf("with MaxBytes %d and %d bytes, Insert of %d bytes = %d; want %d", most, b.size(), size, got, want)
			}
			b.checkLists(t)
		}
		for range 2 {
			step(0, most+1, api.ErrFull)
			step(0, 2*most, api.ErrFull)
			step(0, most, api.OK)
			step(1, 1, api.ErrFull)
			step(1, 0, api.OK)
			b.remove(t, entry(0, 0).Key)
			step(2, most-most/2, api.OK)
			step(3, most/2+1, api.ErrFull)
			step(3, most, api.ErrFull)
			step(3, most/2, api.OK)
			step(4, 1, api.ErrFull)
			step(4, 0, api.OK)
			b.reset()
			b.checkLists(t)
		}
	}
}

// P20.1: a transaction may have more bytes than MaxTxBytes and than a transaction of the network: the pool only knows MaxBytes.
func TestLongRaw(t *testing.T) {
	c := sized(5, api.MaxBytes, 0, 0)
	c.MaxTxBytes, c.BlockBytes, c.BlockGas = 1, 1, 0
	b := fresh(c)
	for i, size := range []int{2, api.MaxTx, api.MaxTx + 1, 1 << 18} {
		e := numbered(i)
		e.Raw, e.Gas = make([]byte, size), math.MaxUint64
		b.insertAll(t, e)
		b.check(t)
	}
}

// P20.1: the limits of an invalid configuration are those of the default one, each of them, whatever makes it invalid; what the pool does not need makes it invalid, too.
func TestInvalidConfigurations(t *testing.T) {
	base := sized(7, 70, 3, 30)
	invalid := map[string]func(c *api.Config){
		"MaxTxs 0":        func(c *api.Config) { c.MaxTxs = 0 },
		"MaxTxs -1":       func(c *api.Config) { c.MaxTxs = -1 },
		"MaxTxs 513":      func(c *api.Config) { c.MaxTxs = api.MaxEntries + 1 },
		"MaxTxs greatest": func(c *api.Config) { c.MaxTxs = math.MaxInt },
		"MaxBytes 0":      func(c *api.Config) { c.MaxBytes = 0 },
		"MaxBytes large":  func(c *api.Config) { c.MaxBytes = api.MaxBytes + 1 },
		"MaxBytes least":  func(c *api.Config) { c.MaxBytes = math.MinInt },
		"MaxTxBytes":      func(c *api.Config) { c.MaxTxBytes = 0 },
		"CacheSize":       func(c *api.Config) { c.CacheSize = -1 },
		"TTLBlocks -1":    func(c *api.Config) { c.TTLBlocks = -1 },
		"TTLBlocks large": func(c *api.Config) { c.TTLBlocks = api.MaxTTL + 1 },
		"TTLTime -1":      func(c *api.Config) { c.TTLTime = -1 },
		"TTLTime large":   func(c *api.Config) { c.TTLTime = api.MaxTTL + 1 },
		"BlockBytes":      func(c *api.Config) { c.BlockBytes = 0 },
		"BlockGas":        func(c *api.Config) { c.BlockGas = -2 },
		"Self -1":         func(c *api.Config) { c.Self = -1 },
		"Self 1 of 1":     func(c *api.Config) { c.Self = 1 },
		"Nodes 0":         func(c *api.Config) { c.Nodes = 0 },
	}
	for name, change := range invalid {
		c := base
		change(&c)
		for range 2 {
			p := pool.New(c)
			if got := room(p); got != 100 {
				t.Errorf("%s: room for %d entries; want 100", name, got)
			}
			if l := p.Expired(math.MaxInt, math.MaxInt); len(l) != 0 {
				t.Errorf("%s: %v has expired", name, l)
			}
			p.Reset()
			if got := p.Insert(api.Entry{Raw: make([]byte, 65537)}); got != api.ErrFull {
				t.Errorf("%s: Insert of 65537 bytes = %d", name, got)
			}
			if got := p.Insert(api.Entry{Raw: make([]byte, 65536)}); got != api.OK {
				t.Errorf("%s: Insert of 65536 bytes = %d", name, got)
			}
			if l := p.Expired(math.MaxInt, math.MaxInt); len(l) != 0 {
				t.Errorf("%s: %v has expired", name, l)
			}
		}
	}
	// The same configuration without any of these changes has its own limits.
	b := fresh(base)
	if got := room(pool.New(base)); got != 7 {
		t.Errorf("room for %d entries; want 7", got)
	}
	for i := range 9 {
		b.insert(t, numbered(i))
		b.check(t)
	}
}

// P20.1: the fields of a valid configuration that the pool does not need change nothing.
func TestOtherFields(t *testing.T) {
	c := sized(7, 70, 3, 30)
	c.MaxTxBytes, c.CacheSize, c.KeepInvalid, c.BlockBytes, c.BlockGas, c.Price, c.Self, c.Nodes = 3, 0, true, 2, 0, math.MaxUint64, 6, 8
	b := fresh(c)
	for i := range 14 {
		b.insert(t, numbered(i))
		b.insert(t, numbered(i))
		b.check(t)
	}
}

// P20.1: the errors in their order, when one, two or all three of them apply, in a pool that is full by its entries or by its bytes, and in one that is not; nothing is changed by them.
func TestErrors(t *testing.T) {
	inside := []api.Entry{named("abc", "ann", 5, 9, 1), named("de", "bob", 5, 8, 2), named("f", "ann", 6, 7, 3)}
	for _, x := range []struct {
		txs, bytes int
		full       bool // for an entry with 2 bytes
	}{{3, 1000, true}, {4, 6, true}, {3, 6, true}, {4, 7, true}, {4, 8, false}, {4, 1000, false}} {
		want := func(e api.Errno) api.Errno {
			if e == api.OK && x.full {
				return api.ErrFull
			}
			return e
		}
		for _, y := range []struct {
			key      string
			sender   string
			sequence uint64
			code     api.Errno
		}{
			{"abc", "ann", 5, api.ErrDuplicate},
			{"de", "ann", 5, api.ErrDuplicate},
			{"f", "bob", 5, api.ErrDuplicate},
			{"abc", "new", 5, api.ErrDuplicate},
			{"f", "bob", 6, api.ErrDuplicate},
			{"new", "ann", 5, api.ErrState},
			{"new", "ann", 6, api.ErrState},
			{"new", "bob", 5, api.ErrState},
			{"", "bob", 5, api.ErrState},
			{"new", "bob", 6, want(api.OK)},
			{"new", "bob", 4, want(api.OK)},
			{"new", "ann", 4, want(api.OK)},
			{"new", "ann", 7, want(api.OK)},
			{"new", "", 5, want(api.OK)},
			{"new", "an", 5, want(api.OK)},
			{"new", "ann\x00", 5, want(api.OK)},
			{"ab", "new", 5, want(api.OK)},
			{"", "new", 0, want(api.OK)},
		} {
			b := fresh(sized(x.txs, x.bytes, 2, 2))
			b.insertAll(t, inside...)
			e := named(y.key, y.sender, y.sequence, 8, 2)
			e.Raw = []byte("xy")
			for range 3 {
				if got := b.insert(t, e); got != y.code && (y.code != api.OK || got != api.ErrDuplicate) {
					t.Fatalf("Insert(%v) with MaxTxs %d and MaxBytes %d = %d; want %d", y, x.txs, x.bytes, got, y.code)
				}
				b.check(t)
			}
			b.rebuilt(t)
		}
	}
}

// P20.1: sequences at both ends of their type, which may not be taken for one another.
func TestSequences(t *testing.T) {
	b := fresh(sized(100, 1000, 0, 0))
	sequences := []uint64{0, 1, 2, 1<<31 - 1, 1 << 31, 1<<32 - 1, 1 << 32, 1<<32 + 1, 1<<63 - 1, 1 << 63, math.MaxUint64 - 1, math.MaxUint64}
	r := rand.New(rand.NewSource(20))
	for _, i := range r.Perm(len(sequences)) {
		for j, name := range []string{"ann", ""} {
			e := named(string(rune('a'+i))+string(rune('a'+j)), name, sequences[i], uint64(i%3), 0)
			b.insertAll(t, e)
			e.Key[5] = 1
			if got := b.insert(t, e); got != api.ErrState {
				t.Fatalf("Insert of %s's sequence %d = %d", name, sequences[i], got)
			}
			b.check(t)
		}
	}
	for _, i := range r.Perm(len(sequences)) {
		k := named(string(rune('a'+i))+"a", "", 0, 0, 0).Key
		b.remove(t, k)
		b.remove(t, k)
		b.check(t)
	}
}

// P20.1 and P20.2: keys that differ in one byte only, in any of them, are different.
func TestKeys(t *testing.T) {
	b := fresh(sized(100, 1000, 0, 0))
	keys := []api.Key{{}}
	for i := range len(api.Key{}) {
		var k, l api.Key
		k[i], l[i] = 1, 0x80
		keys = append(keys, k, l)
	}
	for i, k := range keys {
		b.get(t, k)
		b.remove(t, k)
		e := api.Entry{Key: k, Sequence: uint64(i), Priority: uint64(i % 4), Raw: []byte{byte(i)}}
		b.insertAll(t, e)
		e.Sequence += 1000
		if got := b.insert(t, e); got != api.ErrDuplicate {
			t.Fatalf("Insert of the key %v again = %d", k, got)
		}
	}
	b.check(t)
	for i := range keys {
		b.remove(t, keys[(i*7)%len(keys)])
		b.get(t, keys[(i*7)%len(keys)])
		b.checkLists(t)
	}
}

// P20.1 and P20.2: every field of an entry, with ordinary values and with those at the ends of the types. The pool does not compare the Key with the Raw.
func TestFields(t *testing.T) {
	all := []api.Entry{
		{}, {Raw: []byte{0}}, {Raw: []byte("\xff\x00\x80abc")}, {Raw: []byte{}}, {Raw: make([]byte, api.MaxTx+1)},
		{Sender: "ann"}, {Sender: strings.Repeat("\xff", 1000)}, {Sender: "\x00"},
		{Sequence: math.MaxUint64}, {Gas: 1}, {Gas: math.MaxUint64}, {Priority: 1}, {Priority: math.MaxUint64},
		{Height: 1}, {Height: math.MinInt}, {Height: math.MaxInt},
		{Time: 1}, {Time: math.MinInt}, {Time: math.MaxInt},
		{Order: 1}, {Order: math.MinInt}, {Order: math.MaxInt},
		{Peers: []int{1}}, {Peers: []int{}}, {Peers: []int{math.MaxInt, 3, 3, -1, math.MinInt}}, {Peers: make([]int, 1000)},
		numbered(0), numbered(7), numbered(300),
	}
	b := fresh(sized(len(all), api.MaxBytes, 1, api.MaxTTL))
	for i, e := range all {
		alone := fresh(sized(1, api.MaxBytes, api.MaxTTL, 1))
		alone.insertAll(t, e)
		alone.check(t)
		alone.remove(t, e.Key)
		alone.check(t)
		e.Key = api.Key{byte(i), 1}
		if e.Sequence == 0 {
			e.Sequence = uint64(i)
		}
		b.insertAll(t, e)
		b.check(t)
	}
	b.rebuilt(t, numbered(1))
	for i := range all {
		b.remove(t, api.Key{byte(i), 1})
		b.check(t)
	}
}

// P20.2: Remove and Get of keys that are not there, that are, and that were.
func TestRemove(t *testing.T) {
	b := fresh(sized(10, 1000, 2, 0))
	for i := range 10 {
		b.remove(t, numbered(i).Key)
		b.insertAll(t, numbered(i))
	}
	b.check(t)
	for _, i := range []int{9, 0, 4, 5, 3, 8, 1} {
		for range 2 {
			b.remove(t, numbered(i).Key)
			b.check(t)
		}
		b.remove(t, api.Key{})
		b.remove(t, api.Key{byte(i)})
		b.check(t)
		b.rebuilt(t, numbered(i))
	}
	// What another entry had is free again, each part of it.
	e := numbered(4)
	e.Key = numbered(9).Key
	b.insertAll(t, e)
	b.check(t)
	e = numbered(4)
	e.Sequence = 0
	b.insertAll(t, e)
	b.check(t)
	if got := b.insert(t, numbered(9)); got != api.ErrDuplicate {
		t.Errorf("Insert of the key of another entry = %d", got)
	}
}

// P20.2: an entry that was removed is not found in the place that another one has got instead of it.
func TestReusedPlaces(t *testing.T) {
	b := fresh(sized(4, 1000, 0, 1))
	for i := range 60 {
		b.insertAll(t, numbered(i))
		b.check(t)
		if i >= 3 {
			b.remove(t, numbered(i-(i%3)).Key)
			if b.pool.Len() == 4 {
				b.remove(t, b.plain[i%4].Key)
			}
		}
		for j := range i + 2 {
			b.get(t, numbered(j).Key)
		}
	}
}

// P20.2: Reset removes everything, and keeps the limits.
func TestReset(t *testing.T) {
	for _, c := range []api.Config{config.Default(), sized(3, 1000, 0, 0), sized(10, 5, 0, 0), sized(10, 1000, 2, 0), sized(10, 1000, 0, 2), sized(2, 3, 4, 5)} {
		b := fresh(c)
		for round := range 4 {
			for i := range 6 {
				b.insert(t, numbered(i*(round+1)))
				b.check(t)
			}
			b.reset()
			b.check(t)
			for i := range 6 {
				b.get(t, numbered(i*(round+1)).Key)
				b.remove(t, numbered(i*(round+1)).Key)
			}
			if round%2 == 0 {
				b.reset()
				b.check(t)
			}
		}
		b.rebuilt(t, numbered(1))
	}
}

// P20.3: written out, the orders of the three lists.
func TestOrders(t *testing.T) {
	p := pool.New(config.Default())
	for _, e := range []api.Entry{
		named("A", "bob", 9, 5, 3), named("B", "ann", 2, 7, 9), named("C", "ann", 10, 5, 1), named("D", "bob", 1, 7, 9),
		named("E", "ann", 1, math.MaxUint64, 5), named("F", "cec", 0, 0, -5), named("G", "ann", 0, 5, 3), named("H", "bob", 100, 5, math.MinInt),
		named("I", "bob", 99, 5, math.MaxInt), named("J", "ann", 1<<63, 1<<63, 0),
	} {
		if code := p.Insert(e); code != api.OK {
			t.Fatalf("Insert(%s) = %d", e.Raw, code)
		}
	}
	check := func(entries, sorted, ann, bob string) {
		t.Helper()
		if got := texts(p.Entries()); got != entries {
			t.Errorf("Entries = %s; want %s", got, entries)
		}
		if got := texts(p.Sorted()); got != sorted {
			t.Errorf("Sorted = %s; want %s", got, sorted)
		}
		if a, b := texts(p.Sender("ann")), texts(p.Sender("bob")); a != ann || b != bob {
			t.Errorf("Sender = %s and %s; want %s and %s", a, b, ann, bob)
		}
	}
	check("A B C D E F G H I J", "E J B D H C A G I F", "G E B C J", "D A I H")
	p.Remove(api.Key{'B'})
	p.Remove(api.Key{'A'})
	check("C D E F G H I J", "E J D H C G I F", "G E C J", "D I H")
	p.Insert(named("A", "bob", 9, 5, 3))
	p.Insert(named("B", "ann", 2, 7, 9))
	check("C D E F G H I J A B", "E J D B H C G A I F", "G E B C J", "D A I H")
}

// P20.3: entries with the same Priority and Order stand in the order in which they were inserted, whatever places those before them have left.
func TestEqualEntries(t *testing.T) {
	r := rand.New(rand.NewSource(203))
	b := fresh(sized(12, 1000, 1, 1))
	for i := range 400 {
		e := numbered(i)
		e.Raw, e.Priority, e.Order, e.Height, e.Time = e.Raw[:i%9], 5, 5, 5, 5
		b.insertAll(t, e)
		b.check(t)
		if n := len(b.plain); n > 3 && (n == 12 || r.Intn(2) == 0) {
			b.remove(t, b.plain[r.Intn(n)].Key)
			b.check(t)
		}
	}
}

// P20.3: Expired, written out: by height, by time and by both, at the limits and beyond; in the order of the insertions, and each key once.
func TestExpired(t *testing.T) {
	for _, x := range []struct {
		blocks, time int
		height, now  int
		want         string
	}{
		{2, 0, 7, 1 << 40, "c"}, {2, 0, 8, 0, "ac"}, {2, 0, 9, 0, "ac"}, {2, 0, 10, 0, "abc"}, {2, 0, 12, 0, "abc"}, {2, 0, 13, 0, "abcd"}, {2, 0, 6, 0, ""},
		{0, 20, 1 << 40, 60, ""}, {0, 20, 0, 61, "d"}, {0, 20, 0, 90, "bd"}, {0, 20, 0, 91, "bcd"}, {0, 20, 0, 120, "bcd"}, {0, 20, 0, 121, "abcd"},
		{2, 20, 8, 61, "acd"}, {2, 20, 8, 91, "abcd"}, {2, 20, 6, 60, ""}, {2, 20, 7, 91, "bcd"}, {2, 20, 100, 0, "abcd"}, {2, 20, 0, 1000, "abcd"},
		{0, 0, 1 << 40, 1 << 40, ""}, {0, 0, math.MaxInt, math.MaxInt, ""}, {1, 1, 0, 0, ""}, {1, 1, math.MinInt, math.MinInt, ""}, {1, 1, math.MaxInt, math.MaxInt, "abcd"},
	} {
		p := pool.New(sized(10, 100, x.blocks, x.time))
		for _, e := range []struct {
			text         string
			height, time int
		}{{"a", 5, 100}, {"b", 7, 69}, {"c", 4, 70}, {"d", 10, 40}} {
			y := named(e.text, e.text, 0, 0, 0)
			y.Height, y.Time = e.height, e.time
			p.Insert(y)
		}
		got := ""
		for _, k := range p.Expired(x.height, x.now) {
			got += string(k[:1])
		}
		if got != x.want || p.Len() != 4 {
			t.Errorf("with %d and %d, Expired(%d, %d) = %s, and %d entries are there; want %s, and 4", x.blocks, x.time, x.height, x.now, got, p.Len(), x.want)
		}
	}
}

// P20.3: heights and times at the ends of the integers, for all limits.
func TestExpiredAtEnds(t *testing.T) {
	ends := []int{math.MinInt, math.MinInt + 1, -1 << 62, -1 << 30, -2, -1, 0, 1, 2, 1 << 30, 1<<30 + 1, 1 << 62, math.MaxInt - 1, math.MaxInt}
	for _, x := range []struct{ blocks, time int }{{0, 0}, {1, 0}, {0, 1}, {api.MaxTTL, 0}, {0, api.MaxTTL}, {1, api.MaxTTL}, {2, 1}} {
		b := fresh(sized(100, 1000, x.blocks, x.time))
		for i := range ends {
			e := numbered(i)
			e.Raw, e.Height, e.Time = nil, ends[i], ends[(i*5)%len(ends)]
			b.insertAll(t, e)
		}
		for range 2 {
			for _, height := range ends {
				for _, time := range ends {
					b.checkExpired(t, height, time)
				}
			}
			for i := 0; i < len(ends); i += 3 {
				b.remove(t, numbered(i).Key)
			}
		}
	}
}

// P20.4: the methods of a nil Pool.
func TestNil(t *testing.T) {
	var p *pool.Pool
	for range 2 {
		for _, e := range []api.Entry{{}, numbered(3), {Raw: make([]byte, api.MaxBytes+1)}} {
			if code := p.Insert(e); code != api.ErrState {
				t.Errorf("Insert = %d", code)
			}
			if p.Remove(e.Key) {
				t.Error("Remove is true")
			}
			if got, ok := p.Get(e.Key); !same(got, api.Entry{}) || ok {
				t.Errorf("Get = %v, %v", got, ok)
			}
			if got := p.Sender(e.Sender); len(got) != 0 {
				t.Errorf("Sender = %v", got)
			}
		}
		if a, b, c := p.Entries(), p.Sorted(), p.Expired(math.MaxInt, math.MaxInt); len(a)+len(b)+len(c) != 0 {
			t.Errorf("Entries, Sorted and Expired = %v, %v, %v", a, b, c)
		}
		if p.Len() != 0 || p.Bytes() != 0 {
			t.Errorf("Len and Bytes = %d and %d", p.Len(), p.Bytes())
		}
		p.Reset()
	}
}

// lists returns all lists of p that contain its entries, and each entry by its key.
func lists(p *pool.Pool, e api.Entry) [][]api.Entry {
	x, _ := p.Get(e.Key)
	return [][]api.Entry{p.Entries(), p.Sorted(), p.Sender(e.Sender), {x}}
}

// spoil overwrites what e leads to, with the spare capacity.
func spoil(e *api.Entry) {
	raw, peers := e.Raw[:cap(e.Raw)], e.Peers[:cap(e.Peers)]
	for i := range raw {
		raw[i] ^= 0xff
	}
	for i := range peers {
		peers[i] = -peers[i] - 1
	}
	*e = api.Entry{Key: api.Key{99}, Sender: "spoiled"}
}

// P20.4: neither what is given nor what is returned leads to the memory of the pool, and no result leads to that of another one.
func TestSharedMemory(t *testing.T) {
	b := fresh(sized(20, 1000, 1, 1))
	for i := range 8 {
		e := numbered(i)
		e.Raw, e.Peers = append(make([]byte, 0, 64), e.Raw...), append(make([]int, 0, 64), e.Peers...)
		if code := b.pool.Insert(e); code != api.OK {
			t.Fatalf("Insert = %d", code)
		}
		b.plain = append(b.plain, numbered(i))
		if !same(e, numbered(i)) || slices.Max(e.Peers[:cap(e.Peers)][i+1:]) != 0 || strings.Trim(string(e.Raw[i:cap(e.Raw)]), "\x00") != "" {
			t.Fatalf("Insert has changed its argument to %v", e)
		}
		spoil(&e)
		b.check(t)
	}
	for i := range 8 {
		results := append(lists(b.pool, numbered(i)), lists(b.pool, numbered(i))...)
		for j, l := range results {
			for k := range l {
				spoil(&l[k])
			}
			for _, other := range results[j+1:] {
				for _, e := range other {
					if at := b.at(e.Key); at < 0 || !same(e, b.plain[at]) {
						t.Fatalf("two results share memory: %v", e)
					}
				}
			}
		}
		b.check(t)
		keys, again := b.pool.Expired(500, 1000), b.pool.Expired(500, 1000)
		clear(keys[:cap(keys)])
		if !slices.Equal(again, b.expired(500, 1000)) || len(again) != 8 {
			t.Fatalf("two results of Expired share memory: %v", again)
		}
		b.check(t)
	}
	// Two entries of one result have memory of their own, also their spare capacity.
	l := b.pool.Entries()
	for i := range l {
		l[i].Raw, l[i].Peers = append(l[i].Raw, "!!!!!!!!"...), append(l[i].Peers, 1, 2, 3, 4, 5, 6, 7, 8)
	}
	for i := range l {
		if x := numbered(i); string(l[i].Raw) != string(x.Raw)+"!!!!!!!!" || !slices.Equal(l[i].Peers[:i+1], x.Peers) {
			t.Fatalf("two entries of one result share memory: %v", l[i])
		}
	}
	b.check(t)
}

// P20.4: one slice in several entries is no shared memory behind Insert, and what the pool has refused is not kept either.
func TestGivenTwice(t *testing.T) {
	raw, peers := []byte("raw"), []int{1, 2, 3}
	b := fresh(sized(2, 100, 0, 0))
	for i := range 4 {
		e := api.Entry{Key: api.Key{byte(i)}, Sequence: uint64(i), Raw: raw, Peers: peers}
		code := b.pool.Insert(e)
		if want := b.refused(e); code != want {
			t.Fatalf("Insert = %d; want %d", code, want)
		}
		if code == api.OK {
			b.plain = append(b.plain, own(e))
		}
	}
	first, _ := b.pool.Get(api.Key{0})
	first.Raw[0], first.Peers[0] = 'X', 9
	raw[1], peers[1] = 'Y', 8
	b.check(t)
}

// R3: what one pool contains does not depend on another one, also if both have the same configuration and the same entries.
func TestIndependence(t *testing.T) {
	c := sized(5, 100, 2, 2)
	a, b := fresh(c), fresh(c)
	for i := range 7 {
		a.insert(t, numbered(i))
		b.insert(t, numbered(6-i))
		if i%3 == 2 {
			a.remove(t, numbered(i-1).Key)
			b.remove(t, numbered(i-1).Key)
		}
		a.check(t)
		b.check(t)
	}
	a.reset()
	a.check(t)
	b.check(t)
	a.insertAll(t, numbered(9))
	a.check(t)
	b.check(t)
}

// step is a call that changes a pool.
type step struct {
	insert bool
	reset  bool
	entry  api.Entry
}

// steps returns calls with entries that share keys, senders and sequences, priorities and orders, and have 0 to 3 bytes.
func steps() []step {
	first := named("a", "ann", 1, 5, 2)
	second := named("bb", "ann", 2, 5, 2)
	third := named("ccc", "bob", 1, 6, 1)
	fourth := named("", "bob", 2, 5, 1)
	first.Height, second.Height, third.Time, fourth.Time = 3, 1, 2, 4
	sameKey, sameSequence := own(third), own(second)
	sameKey.Key, sameKey.Sequence = first.Key, 9
	sameSequence.Key, sameSequence.Priority = api.Key{200}, 7
	var l []step
	for _, e := range []api.Entry{first, second, third, fourth, sameKey, sameSequence} {
		l = append(l, step{insert: true, entry: e})
	}
	for _, e := range []api.Entry{first, second, sameSequence} {
		l = append(l, step{entry: e})
	}
	return append(l, step{reset: true})
}

func (b *both) do(t *testing.T, s step) {
	t.Helper()
	switch {
	case s.reset:
		b.reset()
	case s.insert:
		b.insert(t, s.entry)
	default:
		b.remove(t, s.entry.Key)
	}
}

// P20.1 to P20.3 and P20.5: all sequences of a few calls, in pools of several sizes.
func TestAllSequences(t *testing.T) {
	const length = 4
	l := steps()
	total := 1
	for range length {
		total *= len(l)
	}
	for _, c := range []api.Config{sized(5, 100, 1, 0), sized(2, 100, 0, 1), sized(3, 5, 1, 1), sized(1, 2, 2, 3)} {
		for code := range total {
			b := fresh(c)
			for range length {
				b.do(t, l[code%len(l)])
				code /= len(l)
				b.checkLists(t)
			}
			b.check(t)
			if code%7 == 0 {
				b.rebuilt(t, l[0].entry, l[5].entry)
			}
		}
	}
}

// random returns an entry out of few keys, senders, sequences, priorities, orders, heights and times.
func random(r *rand.Rand, keys int) api.Entry {
	e := api.Entry{
		Key: api.Key{byte(r.Intn(keys))}, Raw: make([]byte, r.Intn(12)), Sender: string(rune('a' + r.Intn(4))),
		Sequence: uint64(r.Intn(keys)), Gas: r.Uint64(), Priority: uint64(r.Intn(4)), Order: r.Intn(4),
		Height: r.Intn(10), Time: r.Intn(100), Peers: r.Perm(r.Intn(3)),
	}
	r.Read(e.Raw)
	return e
}

// P20.1 to P20.3 and P20.5: long sequences of calls at random.
func TestRandomSequences(t *testing.T) {
	r := rand.New(rand.NewSource(20))
	for round := range 60 {
		b := fresh(sized(1+r.Intn(30), 1+r.Intn(200), r.Intn(4), r.Intn(40)))
		keys := 5 + r.Intn(60)
		for i := range 200 {
			switch n := r.Intn(100); {
			case n == 0 && round%2 == 0:
				b.reset()
			case n < 30 && len(b.plain) > 0:
				b.remove(t, b.plain[r.Intn(len(b.plain))].Key)
			case n < 35:
				b.remove(t, api.Key{byte(r.Intn(keys))})
			default:
				b.insert(t, random(r, keys))
			}
			b.checkLists(t)
			b.checkExpired(t, r.Intn(20), r.Intn(200))
			if i%20 == 0 {
				b.check(t)
				b.rebuilt(t, random(r, keys), random(r, keys))
			}
		}
	}
}

// P20.5: Entries, Sorted and the lists of all senders contain the same entries, also in a large pool.
func TestLargePool(t *testing.T) {
	r := rand.New(rand.NewSource(205))
	b := fresh(sized(api.MaxEntries, api.MaxBytes, 5, 0))
	for i := range api.MaxEntries + 10 {
		e := api.Entry{Key: api.Key{byte(i), byte(i >> 8)}, Raw: make([]byte, r.Intn(50)), Sender: string(rune('a' + i%17)), Sequence: uint64(i * 7 % 1000), Priority: uint64(r.Intn(50)), Order: r.Intn(5), Height: r.Intn(10)}
		b.insert(t, e)
	}
	if b.pool.Len() != api.MaxEntries {
		t.Fatalf("Len = %d", b.pool.Len())
	}
	byText := func(x, y api.Entry) int { return slices.Compare(x.Key[:], y.Key[:]) }
	for range 20 {
		b.checkLists(t)
		all, sorted := b.pool.Entries(), b.pool.Sorted()
		var bySender []api.Entry
		for i := range 17 {
			bySender = append(bySender, b.pool.Sender(string(rune('a'+i)))...)
		}
		slices.SortFunc(all, byText)
		slices.SortFunc(sorted, byText)
		slices.SortFunc(bySender, byText)
		if !sameAll(all, sorted) || !sameAll(all, bySender) {
			t.Fatal("the lists contain different entries")
		}
		for range 25 {
			b.remove(t, b.plain[r.Intn(len(b.plain))].Key)
		}
	}
	b.check(t)
	b.rebuilt(t)
}

func heapSize() uint64 {
	var m runtime.MemStats
	runtime.GC()
	runtime.ReadMemStats(&m)
	return m.HeapAlloc
}

// A pool keeps nothing of entries that were removed or refused, in however many rounds, and nothing of the memory behind their slices.
func TestMemory(t *testing.T) {
	p := pool.New(sized(api.MaxEntries, api.MaxBytes, 1, 1))
	before := heapSize()
	for i := range 50000 {
		raw, peers := make([]byte, 4096), make([]int, 512)
		e := api.Entry{Key: api.Key{byte(i), byte(i >> 8), byte(i >> 16)}, Raw: raw[:i%3], Peers: peers[:i%3], Sender: strings.Repeat("x", i%50) + string(rune(i)), Sequence: uint64(i), Height: i, Time: i}
		p.Insert(e)
		p.Insert(e)
		if i%2 == 0 {
			p.Remove(e.Key)
		} else if p.Len() == api.MaxEntries {
			p.Reset()
		}
	}
	if after := heapSize(); after > before+1<<20 {
		t.Errorf("the pool keeps %d bytes", after-before)
	}
	if p.Len() == 0 {
		t.Error("the pool is empty")
	}
}
