package admit_test

import (
	"cmp"
	"crypto/sha256"
	"fmt"
	"math"
	"math/rand"
	"reflect"
	"slices"
	"strings"
	"testing"

	"mempool/admit"
	"mempool/api"
	"mempool/app"
	"mempool/apply"
	"mempool/cache"
	"mempool/config"
	"mempool/tx"
)

const top = math.MaxUint64

// pay returns a transaction with one transfer.
func pay(from string, sequence, gas, fee uint64, to string, amount uint64) []byte {
	return encoded(api.Tx{Sender: from, Sequence: sequence, Gas: gas, Fee: fee, Transfers: []api.Transfer{{To: to, Amount: amount}}})
}

func encoded(x api.Tx) []byte {
	raw, e := tx.Encode(x)
	if e != api.OK {
		panic(e)
	}
	return raw
}

// ranked returns a transaction with the priority 1000 + 5 * rank.
func ranked(from string, sequence, rank uint64) []byte {
	return pay(from, sequence, 200, 200+rank, "zoe", 1)
}

// keyOf returns the key of raw, by the standard library.
func keyOf(raw []byte) api.Key {
	return sha256.Sum256(raw)
}

func keysOf(raws ...[]byte) []api.Key {
	var l []api.Key
	for _, raw := range raws {
		l = append(l, keyOf(raw))
	}
	return l
}

// rich are the accounts of most tests: ann to fay have the sequence 0.
func rich() []api.Account {
	var l []api.Account
	for _, name := range []string{"fay", "ann", "eve", "bob", "dan", "cid"} {
		l = append(l, api.Account{Name: name, Balance: 100000})
	}
	return l
}

// start returns the state with these accounts and the default configuration with a change.
func start(t *testing.T, accounts []api.Account, change func(c *api.Config)) api.State {
	t.Helper()
	c := config.Default()
	if change != nil {
		change(&c)
	}
	s, e := admit.Start(c, accounts)
	if e != api.OK {
		t.Fatal("Start has the error", e)
	}
	return s
}

// rebuilt returns v with every slice in it replaced by what list makes of it.
func rebuilt(v reflect.Value, list func(reflect.Value) reflect.Value) reflect.Value {
	switch v.Kind() {
	case reflect.Struct:
		out := reflect.New(v.Type()).Elem()
		for i := range v.NumField() {
			out.Field(i).Set(rebuilt(v.Field(i), list))
		}
		return out
	case reflect.Slice:
		v = list(v)
		if kind := v.Type().Elem().Kind(); kind == reflect.Struct || kind == reflect.Slice {
			for i := range v.Len() {
				v.Index(i).Set(rebuilt(v.Index(i), list))
			}
		}
	}
	return v
}

func fresh(v reflect.Value) reflect.Value {
	if v.Len() == 0 {
		return reflect.Zero(v.Type())
	}
	return reflect.AppendSlice(reflect.MakeSlice(v.Type(), 0, v.Len()), v)
}

// copied returns a copy of x in memory of its own, in which empty slices are nil.
func copied[T any](x T) T {
	return rebuilt(reflect.ValueOf(x), fresh).Interface().(T)
}

// whole returns a copy of x in which all slices reach to the end of their capacity.
func whole[T any](x T) T {
	return rebuilt(reflect.ValueOf(x), func(v reflect.Value) reflect.Value { return fresh(v.Slice(0, v.Cap())) }).Interface().(T)
}

// roomy returns a copy of x in memory of its own, in which all slices have spare capacity with elements that are not zero.
func roomy[T any](x T) T {
	return rebuilt(reflect.ValueOf(x), func(v reflect.Value) reflect.Value {
		out := reflect.AppendSlice(reflect.MakeSlice(v.Type(), 0, v.Len()+3), v)
		spare := out.Slice(v.Len(), out.Cap())
		for i := range spare.Len() {
			mark(spare.Index(i))
		}
		return out
	}).Interface().(T)
}

// mark gives a value and its fields other contents than zero.
func mark(v reflect.Value) {
	switch v.Kind() {
	case reflect.Int:
		v.SetInt(-77)
	case reflect.Uint8, reflect.Uint64:
		v.SetUint(77)
	case reflect.String:
		v.SetString("spare")
	case reflect.Array:
		for i := range v.Len() {
			mark(v.Index(i))
		}
	case reflect.Struct:
		for i := range v.NumField() {
			mark(v.Field(i))
		}
	}
}

// same reports whether all that a and b contain is equal, where nil and empty slices are.
func same[T any](a, b T) bool {
	return reflect.DeepEqual(copied(a), copied(b))
}

// area is where a slice has its memory, to the end of its capacity.
type area struct{ from, to uintptr }

// areas returns where all slices in v have their memory.
func areas(v reflect.Value) []area {
	var l []area
	rebuilt(v, func(v reflect.Value) reflect.Value {
		if size := uintptr(v.Cap()) * v.Type().Elem().Size(); size > 0 {
			l = append(l, area{v.Pointer(), v.Pointer() + size})
		}
		return fresh(v)
	})
	return l
}

// checkApart checks that no two slices in these values share memory.
func checkApart(t *testing.T, values ...any) {
	t.Helper()
	var l []area
	for _, v := range values {
		l = append(l, areas(reflect.ValueOf(v))...)
	}
	slices.SortFunc(l, func(a, b area) int { return cmp.Compare(a.from, b.from) })
	for i := 1; i < len(l); i++ {
		if l[i].from < l[i-1].to {
			t.Fatal("two slices share memory")
		}
	}
}

// victims returns, by the definition of chapter 21, which entries have to leave for one with this priority and size.
func victims(s api.State, priority uint64, size int) ([]api.Key, bool) {
	var candidates []api.Entry
	count, bytes := len(s.Entries)+1, size
	for _, e := range s.Entries {
		bytes += len(e.Raw)
		if e.Priority < priority {
			candidates = append(candidates, e)
		}
	}
	slices.SortFunc(candidates, func(a, b api.Entry) int {
		return cmp.Or(cmp.Compare(a.Priority, b.Priority), cmp.Compare(b.Order, a.Order))
	})
	var keys []api.Key
	for {
		if count <= s.Config.MaxTxs && bytes <= s.Config.MaxBytes {
			return keys, true
		}
		if len(candidates) == 0 {
			return nil, false
		}
		keys = append(keys, candidates[0].Key)
		count, bytes = count-1, bytes-len(candidates[0].Raw)
		candidates = candidates[1:]
	}
}

// verdict returns the error of Check by the definition, or OK with the result of the transaction and the victims.
func verdict(s api.State, raw []byte) (api.Errno, api.Result, []api.Key) {
	c, length := s.Config, 1
	for n := len(raw); n > 127; n /= 128 {
		length++
	}
	pending := slices.ContainsFunc(s.Entries, func(e api.Entry) bool { return e.Key == keyOf(raw) })
	_, r := apply.Tx(s.App.Check, s.App.Price, raw)
	keys, room := victims(s, r.Priority, len(raw))
	switch {
	case len(raw) > c.MaxTxBytes:
		return api.ErrTooLarge, r, nil
	case 1+length+len(raw) > c.BlockBytes:
		return api.ErrPreCheck, r, nil
	case pending || slices.Contains(s.Cache, keyOf(raw)):
		return api.ErrCached, r, nil
	case r.Code != api.OK:
		return r.Code, r, nil
	case c.BlockGas >= 0 && r.Gas > uint64(c.BlockGas):
		return api.ErrPostCheck, r, nil
	case !room:
		return api.ErrFull, r, nil
	}
	return api.OK, r, keys
}

// cacheBehind returns the keys of the cache behind Check of a transaction with the key k and this verdict.
func cacheBehind(s api.State, k api.Key, e api.Errno, gone []api.Key) []api.Key {
	c := cache.New(s.Config.CacheSize)
	for _, x := range s.Cache {
		c.Push(x)
	}
	switch e {
	case api.ErrTooLarge, api.ErrPreCheck:
		return c.Keys()
	case api.OK, api.ErrCached:
		c.Push(k)
	default:
		c.Push(k)
		if e == api.ErrFull || !s.Config.KeepInvalid {
			c.Remove(k)
		}
	}
	for _, x := range gone {
		c.Remove(x)
	}
	return c.Keys()
}

// defined returns what Check has to return.
func defined(s api.State, raw []byte, peer int) (api.State, api.Reply) {
	s = copied(s)
	e, r, gone := verdict(s, raw)
	k := keyOf(raw)
	s.Cache = cacheBehind(s, k, e, gone)
	isPeer := 1 <= peer && peer <= 15
	if e == api.ErrCached {
		for i, x := range s.Entries {
			if x.Key == k && isPeer && !slices.Contains(x.Peers, peer) {
				s.Entries[i].Peers = append(x.Peers, peer)
			}
		}
	}
	if e != api.OK {
		return s, api.Reply{Err: e}
	}
	s.Entries = slices.DeleteFunc(s.Entries, func(x api.Entry) bool { return slices.Contains(gone, x.Key) })
	x := api.Entry{
		Key: k, Raw: raw, Sender: r.Sender, Sequence: r.Sequence, Gas: r.Gas, Priority: r.Priority,
		Height: s.Height, Time: s.Time, Order: s.Arrived,
	}
	if isPeer {
		x.Peers = []int{peer}
	}
	s.Entries = append(s.Entries, x)
	s.App.Check, _ = apply.Tx(s.App.Check, s.App.Price, raw)
	s.Arrived++
	return s, api.Reply{Key: k, Priority: r.Priority, Evicted: gone}
}

// check checks that Check returns what it has to, leaves its arguments as they are, and shares no memory; and returns what Check has returned.
func check(t *testing.T, s api.State, raw []byte, peer int) (api.State, api.Reply) {
	t.Helper()
	given, bytes := roomy(s), roomy(raw)
	before, bytesBefore := whole(given), whole(bytes)
	got, reply := admit.Check(given, bytes, peer)
	want, wantReply := defined(s, raw, peer)
	if !same(reply, wantReply) {
		t.Fatalf("Check of %x from %d has the reply %v; want %v", raw, peer, reply, wantReply)
	}
	if !same(got, want) {
		t.Fatalf("Check of %x from %d, with the reply %v, has the state %+v; want %+v", raw, peer, reply, got, want)
	}
	if !reflect.DeepEqual(whole(given), before) || !slices.Equal(whole(bytes), bytesBefore) {
		t.Fatalf("Check of %x from %d has changed its arguments", raw, peer)
	}
	checkApart(t, given, bytes, got, reply)
	return got, reply
}

// expect does check, and checks the error.
func expect(t *testing.T, s api.State, raw []byte, peer int, e api.Errno) api.State {
	t.Helper()
	s, r := check(t, s, raw, peer)
	if r.Err != e {
		t.Fatalf("Check of %x has the error %d; want %d", raw, r.Err, e)
	}
	if e != api.OK && !same(r, api.Reply{Err: e}) {
		t.Fatalf("the reply with the error %d has more: %v", e, r)
	}
	return s
}

// filled returns s with these transactions, which have to be admitted.
func filled(t *testing.T, s api.State, raws ...[]byte) api.State {
	t.Helper()
	for _, raw := range raws {
		s = expect(t, s, raw, 0, api.OK)
	}
	return s
}

// checkCache checks which keys are in the cache, in order.
func checkCache(t *testing.T, s api.State, want ...api.Key) {
	t.Helper()
	if !slices.Equal(s.Cache, want) {
		t.Fatalf("the cache is %x; want %x", s.Cache, want)
	}
}

// checkEntries checks which transactions are pending, in order.
func checkEntries(t *testing.T, s api.State, want ...[]byte) {
	t.Helper()
	if !slices.EqualFunc(s.Entries, want, func(e api.Entry, raw []byte) bool { return string(e.Raw) == string(raw) }) {
		t.Fatalf("the entries are %v; want %x", s.Entries, want)
	}
}

// checkStays checks that b differs from a in the cache alone.
func checkStays(t *testing.T, a, b api.State) {
	t.Helper()
	a.Cache, b.Cache = nil, nil
	if !same(a, b) {
		t.Fatalf("%+v has become %+v", a, b)
	}
}

// The examples of the chapter.
func TestExamples(t *testing.T) {
	raw, cheap := ranked("ann", 0, 1), pay("bob", 0, 200, 199, "zoe", 1)
	s := filled(t, start(t, rich(), nil), raw)
	s = expect(t, s, raw, 0, api.ErrCached)
	s = expect(t, s, cheap, 0, api.ErrFee)
	checkCache(t, s, keyOf(raw))
	s = filled(t, start(t, rich(), func(c *api.Config) { c.KeepInvalid = true }), raw)
	s = expect(t, s, cheap, 0, api.ErrFee)
	checkCache(t, s, keyOf(raw), keyOf(cheap))
	s = filled(t, start(t, rich(), func(c *api.Config) { c.MaxTxs = 1 }), raw)
	better := ranked("bob", 0, 2)
	s, r := check(t, s, better, 0)
	if r.Err != api.OK || !slices.Equal(r.Evicted, keysOf(raw)) {
		t.Errorf("the reply is %v", r)
	}
	checkEntries(t, s, better)
}

// P22.1: all fields of the state.
func TestStart(t *testing.T) {
	small := api.Config{MaxTxs: 1, MaxBytes: 1, MaxTxBytes: 1, BlockBytes: 1, BlockGas: -1, Nodes: 1}
	large := api.Config{
		MaxTxs: 512, MaxBytes: 1 << 20, MaxTxBytes: 4096, CacheSize: 1024, TTLBlocks: 1 << 30, TTLTime: 1 << 30, KeepInvalid: true,
		BlockBytes: 1 << 20, BlockGas: 1 << 50, Price: top, Self: 7, Nodes: 8,
	}
	sorted := rich()
	slices.SortFunc(sorted, func(a, b api.Account) int { return strings.Compare(a.Name, b.Name) })
	most := []api.Account{{Name: "x", Balance: top - 1, Sequence: top}, {Name: "a", Balance: 1}}
	for _, c := range []api.Config{config.Default(), small, large} {
		for _, x := range []struct{ given, want []api.Account }{{nil, nil}, {rich(), sorted}, {most, []api.Account{most[1], most[0]}}} {
			given := roomy(x.given)
			before := whole(given)
			s, e := admit.Start(c, given)
			l := api.Ledger{Accounts: x.want}
			want := api.State{Config: c, App: api.App{Committed: l, Check: l, Price: c.Price}}
			if e != api.OK || !same(s, want) {
				t.Errorf("Start(%+v, %v) = %+v, %d", c, x.given, s, e)
			}
			if !slices.Equal(whole(given), before) {
				t.Errorf("Start(%+v, %v) has changed the accounts", c, x.given)
			}
			checkApart(t, given, s)
		}
	}
}

// P22.1: the errors of the configuration come before those of the accounts.
func TestStartErrors(t *testing.T) {
	var many []api.Account
	for i := range api.MaxAccounts + 1 {
		many = append(many, api.Account{Name: fmt.Sprint("n", i)})
	}
	good := config.Default()
	bad := []api.Config{{}, good, good, good, good}
	bad[1].Nodes, bad[2].MaxTxs, bad[3].BlockGas, bad[4].Self = 0, api.MaxEntries+1, -2, 1
	for _, x := range []struct {
		accounts []api.Account
		e        api.Errno
	}{
		{rich(), api.OK}, {nil, api.OK}, {many[1:], api.OK},
		{many, api.ErrLimit},
		{[]api.Account{{Name: "a"}, {Name: "A"}}, api.ErrName},
		{[]api.Account{{}}, api.ErrName},
		{[]api.Account{{Name: "a"}, {Name: "b"}, {Name: "a"}}, api.ErrDuplicate},
		{[]api.Account{{Name: "b", Balance: top}, {Name: "a", Balance: 1}}, api.ErrOverflow},
	} {
		s, e := admit.Start(good, x.accounts)
		if e != x.e || e != api.OK && !same(s, api.State{}) {
			t.Errorf("Start with %v = %+v, %d; want %d", x.accounts, s, e, x.e)
		}
		for _, c := range bad {
			if s, e := admit.Start(c, x.accounts); e != api.ErrArgument || !same(s, api.State{}) {
				t.Errorf("Start(%+v, %v) = %+v, %d", c, x.accounts, s, e)
			}
		}
	}
}

// P22.2: Pending, for any state.
func TestPending(t *testing.T) {
	a, b, c := api.Key{1}, api.Key{2}, api.Key{31: 1}
	for _, x := range []struct {
		keys []api.Key
		want [4]int // of a, b, c and the zero key
	}{
		{nil, [4]int{-1, -1, -1, -1}},
		{[]api.Key{a}, [4]int{0, -1, -1, -1}},
		{[]api.Key{c, b, a}, [4]int{2, 1, 0, -1}},
		{[]api.Key{b, {}, b, a, {}, a}, [4]int{3, 0, -1, 1}},
	} {
		s := api.State{Cache: []api.Key{a, b, c, {}}}
		for i, k := range x.keys {
			// Nothing but the key counts.
			s.Entries = append(s.Entries, api.Entry{Key: k, Order: 5 - i, Sender: "ann"})
		}
		for i, k := range []api.Key{a, b, c, {}} {
			if got := admit.Pending(s, k); got != x.want[i] {
				t.Errorf("Pending of %x in %x = %d; want %d", k, x.keys, got, x.want[i])
			}
		}
	}
	raws := [][]byte{ranked("ann", 0, 5), ranked("bob", 0, 9), ranked("ann", 1, 2)}
	s := filled(t, start(t, rich(), nil), raws...)
	for i, raw := range raws {
		if got := admit.Pending(s, keyOf(raw)); got != i {
			t.Errorf("Pending of the transaction %d = %d", i, got)
		}
	}
}

// checkLists checks Push with these sizes, and Drop, against a cache.
func checkLists(t *testing.T, l []api.Key, k api.Key, sizes ...int) {
	t.Helper()
	for _, size := range sizes {
		c := cache.New(size)
		for _, x := range l {
			c.Push(x)
		}
		c.Push(k)
		given := roomy(l)
		before := whole(given)
		got := admit.Push(given, size, k)
		if !slices.Equal(got, c.Keys()) {
			t.Fatalf("Push(%x, %d, %x) = %x; want %x", l, size, k, got, c.Keys())
		}
		if !slices.Equal(whole(given), before) {
			t.Fatalf("Push(%x, %d, %x) has changed its argument", l, size, k)
		}
		checkApart(t, given, got, admit.Push(given, size, k))
	}
	c := cache.New(api.MaxCache)
	for _, x := range l {
		c.Push(x)
	}
	c.Remove(k)
	given := roomy(l)
	before := whole(given)
	got := admit.Drop(given, k)
	if !slices.Equal(got, c.Keys()) {
		t.Fatalf("Drop(%x, %x) = %x; want %x", l, k, got, c.Keys())
	}
	if !slices.Equal(whole(given), before) {
		t.Fatalf("Drop(%x, %x) has changed its argument", l, k)
	}
	checkApart(t, given, got, admit.Drop(given, k))
}

// P22.2: all lists of up to four of five different keys, with all sizes that they can have.
func TestShortLists(t *testing.T) {
	all := []api.Key{{}, {1}, {2}, {31: 1}, {1, 2, 3}}
	var walk func(l []api.Key)
	walk = func(l []api.Key) {
		for _, k := range all {
			for size := len(l); size < 7; size++ {
				checkLists(t, l, k, size)
			}
			checkLists(t, l, k, api.MaxCache, math.MaxInt)
		}
		if len(l) == 4 {
			return
		}
		for _, k := range all {
			if !slices.Contains(l, k) {
				walk(append(slices.Clone(l), k))
			}
		}
	}
	walk(nil)
	for _, size := range []int{0, -1, -2, math.MinInt, math.MinInt + 1} {
		checkLists(t, nil, api.Key{1}, size)
	}
}

// P22.2: written out.
func TestLists(t *testing.T) {
	a, b, c, d := api.Key{1}, api.Key{2}, api.Key{3}, api.Key{4}
	l := []api.Key{a, b, c}
	for _, x := range []struct {
		got  []api.Key
		want []api.Key
	}{
		{admit.Push(nil, 1, a), []api.Key{a}},
		{admit.Push(nil, 0, a), nil},
		{admit.Push(l, 3, d), []api.Key{b, c, d}},
		{admit.Push(l, 4, d), []api.Key{a, b, c, d}},
		{admit.Push(l, 3, a), []api.Key{b, c, a}},
		{admit.Push(l, 3, b), []api.Key{a, c, b}},
		{admit.Push(l, 3, c), []api.Key{a, b, c}},
		{admit.Push(l, 9, b), []api.Key{a, c, b}},
		{admit.Push([]api.Key{a}, 1, b), []api.Key{b}},
		{admit.Push([]api.Key{a}, 1, a), []api.Key{a}},
		{admit.Drop(nil, a), nil},
		{admit.Drop(l, a), []api.Key{b, c}},
		{admit.Drop(l, b), []api.Key{a, c}},
		{admit.Drop(l, c), []api.Key{a, b}},
		{admit.Drop(l, d), []api.Key{a, b, c}},
		{admit.Drop([]api.Key{a}, a), nil},
	} {
		if !slices.Equal(x.got, x.want) {
			t.Errorf("got %x; want %x", x.got, x.want)
		}
	}
}

// P22.2: a size above MaxCache counts as MaxCache.
func TestLargeLists(t *testing.T) {
	var l []api.Key
	for i := range api.MaxCache {
		l = append(l, api.Key{byte(i), byte(i >> 8)})
	}
	for _, n := range []int{api.MaxCache - 2, api.MaxCache - 1, api.MaxCache} {
		for _, k := range []api.Key{{99, 99}, l[0], l[1], l[n/2], l[n-1]} {
			checkLists(t, l[:n], k, n, n+1, api.MaxCache, api.MaxCache+1, api.MaxCache+2, 2*api.MaxCache, math.MaxInt)
		}
	}
	if got := admit.Push(l, math.MaxInt, api.Key{99, 99}); len(got) != api.MaxCache || got[0] != l[1] {
		t.Errorf("Push to a full cache has %d keys", len(got))
	}
}

// Lists that no cache has terminate, too, without more keys than the size allows.
func TestOtherLists(t *testing.T) {
	a, b := api.Key{1}, api.Key{2}
	for _, l := range [][]api.Key{{a, a}, {a, b, a, b}, {b, b, b}, make([]api.Key, 2000), {a, b}} {
		for _, size := range []int{math.MinInt, -1, 0, 1, 2, 3, 1500, math.MaxInt} {
			given := roomy(l)
			before := whole(given)
			pushed, dropped := admit.Push(given, size, a), admit.Drop(given, a)
			if len(pushed) > max(size, 0) || len(pushed) > api.MaxCache || len(dropped) > len(l) || !slices.Equal(whole(given), before) {
				t.Errorf("Push and Drop of %d keys with the size %d = %d and %d keys", len(l), size, len(pushed), len(dropped))
			}
			checkApart(t, given, pushed, dropped)
		}
	}
}

// P22.3, step 1: the lengths at the limits, with the sizes in a block; nothing changes.
func TestLengths(t *testing.T) {
	old := ranked("ann", 0, 1)
	for _, n := range []int{0, 1, 2, 50, 126, 127, 128, 129, 1000, 4095, 4096} {
		size := n + 2
		if n > 127 {
			size = n + 3
		}
		// All bytes are 0, which is no message.
		e := api.ErrEncoding
		if n == 0 {
			e = api.ErrName
		}
		for _, x := range []struct {
			most, block int
			e           api.Errno
		}{
			{n, size, e}, {4096, 1 << 20, e}, {n, size + 1, e}, {n + 1, size, e},
			{n - 1, size, api.ErrTooLarge}, {n - 1, 1 << 20, api.ErrTooLarge}, {n - 1, size - 1, api.ErrTooLarge}, {n - 1, 1, api.ErrTooLarge}, {1, 1, api.ErrTooLarge},
			{n, size - 1, api.ErrPreCheck}, {n, n, api.ErrPreCheck}, {4096, size - 1, api.ErrPreCheck}, {4096, 1, api.ErrPreCheck},
		} {
			if x.most < 1 || x.most > 4096 || x.block < 1 || x.most >= n && x.e == api.ErrTooLarge {
				continue
			}
			s := start(t, rich(), func(c *api.Config) { c.MaxTxBytes, c.BlockBytes, c.CacheSize = x.most, x.block, 2 })
			s.Cache = keysOf([]byte("1"), []byte("2"))
			got := expect(t, s, make([]byte, n), 3, x.e)
			checkStays(t, s, got)
			if x.e == api.ErrTooLarge || x.e == api.ErrPreCheck {
				checkCache(t, got, s.Cache...)
			} else {
				checkCache(t, got, s.Cache[1])
			}
		}
	}
	s := filled(t, start(t, rich(), func(c *api.Config) { c.KeepInvalid = true }), old)
	got := expect(t, s, make([]byte, 1025), 1, api.ErrTooLarge)
	checkStays(t, s, got)
	checkCache(t, got, keyOf(old))
	expect(t, s, make([]byte, 1024), 1, api.ErrEncoding)
	expect(t, s, make([]byte, 100000), 1, api.ErrTooLarge)
}

// P22.3, step 1: valid transactions of 127 and 128 bytes, the first of which takes 129 bytes of a block, and the second 131.
func TestSizes(t *testing.T) {
	for n, size := range map[int]int{127: 129, 128: 131, 129: 132} {
		x := api.Tx{Sender: "ann", Gas: 300, Fee: 300, Memo: strings.Repeat("\u2003", 34), Transfers: []api.Transfer{{To: "bob", Amount: 1}}}
		for len(encoded(x)) < n {
			x.Memo += "x"
		}
		raw := encoded(x)
		if len(raw) != n {
			t.Fatalf("the transaction has %d bytes; want %d", len(raw), n)
		}
		for block := size - 4; block < size+4; block++ {
			e := api.OK
			if block < size {
				e = api.ErrPreCheck
			}
			expect(t, start(t, rich(), func(c *api.Config) { c.BlockBytes = block }), raw, 0, e)
		}
	}
}

// P22.3, step 2: what is in the cache, pending or not, becomes the most recently used key.
func TestCached(t *testing.T) {
	a, b, c := ranked("ann", 0, 1), ranked("bob", 0, 1), ranked("ann", 7, 1)
	s := filled(t, start(t, rich(), func(c *api.Config) { c.KeepInvalid = true }), a, b)
	s = expect(t, s, c, 0, api.ErrSequence)
	checkCache(t, s, keysOf(a, b, c)...)
	for _, x := range []struct {
		raw  []byte
		want []api.Key
	}{{a, keysOf(b, c, a)}, {b, keysOf(c, a, b)}, {c, keysOf(a, b, c)}, {c, keysOf(a, b, c)}, {a, keysOf(b, c, a)}, {c, keysOf(b, a, c)}} {
		next := expect(t, s, x.raw, 0, api.ErrCached)
		checkStays(t, s, next)
		checkCache(t, next, x.want...)
		s = next
	}
	// The sequence of c would be right by now, but its key is still there.
	s = start(t, rich(), func(c *api.Config) { c.KeepInvalid = true })
	s = expect(t, s, ranked("ann", 1, 1), 0, api.ErrSequence)
	s = filled(t, s, a)
	s = expect(t, s, ranked("ann", 1, 1), 0, api.ErrCached)
	checkEntries(t, s, a)
}

// P22.3, step 2: a pending transaction is known also when its key has left the cache, or there is none.
func TestPendingWithoutCache(t *testing.T) {
	a, b, c := ranked("ann", 0, 1), ranked("bob", 0, 1), ranked("cid", 0, 1)
	s := filled(t, start(t, rich(), func(c *api.Config) { c.CacheSize = 2 }), a, b, c)
	checkCache(t, s, keysOf(b, c)...)
	s = expect(t, s, a, 2, api.ErrCached)
	checkCache(t, s, keysOf(c, a)...)
	s = expect(t, s, b, 2, api.ErrCached)
	checkCache(t, s, keysOf(a, b)...)
	checkEntries(t, s, a, b, c)
	s = filled(t, start(t, rich(), func(c *api.Config) { c.CacheSize = 0 }), a, b)
	for _, raw := range [][]byte{a, b, a} {
		s = expect(t, s, raw, 5, api.ErrCached)
		checkCache(t, s)
	}
	if !slices.Equal(s.Entries[0].Peers, []int{5}) || !slices.Equal(s.Entries[1].Peers, []int{5}) {
		t.Errorf("the entries are %v", s.Entries)
	}
}

// P22.3, step 2: each peer once, in the order in which they came; and no other number.
func TestPeers(t *testing.T) {
	a, b := ranked("ann", 0, 1), ranked("bob", 0, 1)
	for _, first := range []int{0, 1, 9, 15, 16, -1} {
		s := filled(t, start(t, rich(), nil), b)
		s = expect(t, s, a, first, api.OK)
		var want []int
		for _, peer := range []int{first, 0, 4, -1, 1, 16, 4, 15, 1, 0, math.MinInt, math.MaxInt, 17, 1 << 32, 1<<32 + 1, -15, 15, 2, first} {
			if peer >= 1 && peer <= 15 && !slices.Contains(want, peer) {
				want = append(want, peer)
			}
			s = expect(t, s, a, peer, api.ErrCached)
			if !slices.Equal(s.Entries[1].Peers, want) || len(s.Entries[0].Peers) != 0 {
				t.Fatalf("behind %d, the peers are %v and %v; want %v", peer, s.Entries[1].Peers, s.Entries[0].Peers, want)
			}
		}
	}
	s := filled(t, start(t, rich(), nil), a)
	var want []int
	for _, peer := range rand.New(rand.NewSource(22)).Perm(40) {
		if peer >= 1 && peer <= 15 {
			want = append(want, peer)
		}
		s = expect(t, s, a, peer, api.ErrCached)
	}
	if !slices.Equal(s.Entries[0].Peers, want) || len(want) != 15 {
		t.Errorf("the peers are %v; want %v", s.Entries[0].Peers, want)
	}
}

// P22.3, step 2: a key that is in the cache, but not pending, gives no peer to any entry.
func TestPeersOfRefused(t *testing.T) {
	s := filled(t, start(t, rich(), func(c *api.Config) { c.KeepInvalid = true }), ranked("ann", 0, 1), ranked("bob", 0, 1))
	bad := ranked("cid", 1, 1)
	for _, e := range []api.Errno{api.ErrSequence, api.ErrCached, api.ErrCached} {
		next := expect(t, s, bad, 6, e)
		checkStays(t, s, next)
		s = next
	}
}

// refused returns transactions with the Code that the account ann with 100000 and the sequence 0 gives them at the price 1.
func refused() map[api.Errno][]byte {
	return map[api.Errno][]byte{
		api.ErrName:     nil,
		api.ErrEncoding: {255},
		api.ErrSender:   ranked("nobody", 0, 1),
		api.ErrSequence: ranked("ann", 1, 1),
		api.ErrGas:      pay("ann", 0, 60, 100, "bob", 1),
		api.ErrFee:      pay("ann", 0, 200, 199, "bob", 1),
		api.ErrFunds:    pay("ann", 0, 200, 200, "bob", 99801),
		api.ErrOverflow: pay("ann", 0, 200, 200, "bob", top),
		// The bytes of a transaction without transfers.
		api.ErrLimit: {10, 3, 'a', 'n', 'n', 24, 1},
	}
}

// P22.3, step 3: the Code is the error; only with KeepInvalid the key stays. The oldest key has left a full cache anyway.
func TestInvalid(t *testing.T) {
	a, b := ranked("bob", 0, 1), ranked("cid", 0, 1)
	for e, raw := range refused() {
		for _, x := range []struct {
			size int
			keep bool
			want []api.Key
		}{
			{0, false, nil}, {0, true, nil}, {1, false, nil}, {1, true, keysOf(raw)}, {2, false, keysOf(b)}, {2, true, keysOf(b, raw)}, {3, false, keysOf(a, b)}, {3, true, keysOf(a, b, raw)}, {4, true, keysOf(a, b, raw)},
		} {
			s := filled(t, start(t, rich(), func(c *api.Config) { c.CacheSize, c.KeepInvalid = x.size, x.keep }), a, b)
			got := expect(t, s, raw, 3, e)
			checkStays(t, s, got)
			checkCache(t, got, x.want...)
			again := e
			if x.keep && x.size > 0 {
				again = api.ErrCached
			}
			expect(t, got, raw, 3, again)
		}
	}
}

// P22.3, step 3: the gas at the limit of a block, after the Code; -1 means no limit.
func TestPostCheck(t *testing.T) {
	for _, x := range []struct {
		gas      uint64
		blockGas int
		e        api.Errno
	}{
		{200, -1, api.OK}, {200, 200, api.OK}, {200, 201, api.OK}, {200, 1 << 50, api.OK}, {1 << 50, 1 << 50, api.OK}, {1<<50 + 1, -1, api.OK}, {1 << 63, -1, api.OK}, {top, -1, api.OK},
		{200, 199, api.ErrPostCheck}, {200, 0, api.ErrPostCheck}, {1<<50 + 1, 1 << 50, api.ErrPostCheck}, {1 << 63, 1 << 50, api.ErrPostCheck}, {1<<63 + 5, 200, api.ErrPostCheck}, {top, 0, api.ErrPostCheck}, {top, 1 << 50, api.ErrPostCheck},
	} {
		for _, keep := range []bool{false, true} {
			s := start(t, rich(), func(c *api.Config) { c.Price, c.BlockGas, c.KeepInvalid = 0, x.blockGas, keep })
			raw := pay("ann", 0, x.gas, 3, "bob", 1)
			got := expect(t, s, raw, 3, x.e)
			if x.e == api.OK {
				continue
			}
			checkStays(t, s, got)
			if keep {
				checkCache(t, got, keyOf(raw))
			} else {
				checkCache(t, got)
			}
			expect(t, s, pay("ann", 1, x.gas, 3, "bob", 1), 3, api.ErrSequence)
			expect(t, s, pay("ann", 0, x.gas, 3, "bob", 100000), 3, api.ErrFunds)
		}
	}
}

// P22.3, step 4: in a full pool, only a greater priority is admitted; otherwise the key leaves the cache, also with KeepInvalid.
func TestFull(t *testing.T) {
	a, b := ranked("ann", 0, 3), ranked("bob", 0, 5)
	full := map[string]func(c *api.Config){
		"entries": func(c *api.Config) { c.MaxTxs = 2 },
		"bytes":   func(c *api.Config) { c.MaxBytes = len(a) + len(b) },
		"a byte":  func(c *api.Config) { c.MaxBytes = len(a) + len(b) + len(a) - 1 },
	}
	for name, change := range full {
		for _, keep := range []bool{false, true} {
			s := filled(t, start(t, rich(), func(c *api.Config) {
				change(c)
				c.KeepInvalid = keep
			}), a, b)
			for _, rank := range []uint64{0, 1, 2, 3} {
				got := expect(t, s, ranked("cid", 0, rank), 3, api.ErrFull)
				checkStays(t, s, got)
				checkCache(t, got, keysOf(a, b)...)
				// It is no more known than before.
				expect(t, got, ranked("cid", 0, rank), 3, api.ErrFull)
			}
			got, r := check(t, s, ranked("cid", 0, 4), 3)
			if r.Err != api.OK || !slices.Equal(r.Evicted, keysOf(a)) {
				t.Errorf("%s: the reply is %v", name, r)
			}
			checkEntries(t, got, b, ranked("cid", 0, 4))
			checkCache(t, got, keysOf(b, ranked("cid", 0, 4))...)
		}
	}
	s := filled(t, start(t, rich(), func(c *api.Config) { c.MaxTxs, c.CacheSize = 2, 2 }), a, b)
	got := expect(t, s, ranked("cid", 0, 0), 3, api.ErrFull)
	checkCache(t, got, keyOf(b))
}

// P22.3, step 4: one that is longer than the whole pool is never admitted.
func TestLongerThanPool(t *testing.T) {
	raw := ranked("ann", 0, 100)
	for _, most := range []int{1, len(raw) - 1} {
		s := start(t, rich(), func(c *api.Config) { c.MaxBytes = most })
		got := expect(t, s, raw, 3, api.ErrFull)
		checkStays(t, s, got)
		checkCache(t, got)
	}
	s := start(t, rich(), func(c *api.Config) { c.MaxBytes = len(raw) })
	filled(t, s, raw)
}

// P22.3: where the conditions of several steps hold, the first one counts.
func TestFirstStep(t *testing.T) {
	a := ranked("ann", 0, 3)
	s := filled(t, start(t, rich(), func(c *api.Config) {
		c.MaxTxs, c.MaxTxBytes, c.BlockBytes, c.BlockGas, c.KeepInvalid = 1, 30, 30, 200, true
	}), a)
	expect(t, s, make([]byte, 31), 0, api.ErrTooLarge)
	expect(t, s, make([]byte, 29), 0, api.ErrPreCheck)
	// Not the error of the sequence, which is over.
	expect(t, s, a, 0, api.ErrCached)
	dear := pay("bob", 0, 201, 10, "zoe", 1)
	s = expect(t, s, dear, 0, api.ErrFee)
	expect(t, s, dear, 0, api.ErrCached)
	expect(t, s, pay("bob", 0, 201, 201, "zoe", 1), 0, api.ErrPostCheck)
	expect(t, s, pay("bob", 0, 200, 200, "zoe", 1), 0, api.ErrFull)
	expect(t, s, pay("bob", 0, 200, 199, "zoe", 1), 0, api.ErrFee)
}

// P22.3, step 5: all fields of the state, the entry and the reply.
func TestAdmit(t *testing.T) {
	accounts := []api.Account{{Name: "bob", Balance: 5}, {Name: "ann", Balance: 1000, Sequence: 8}}
	s := start(t, accounts, func(c *api.Config) { c.Price = 2 })
	s.Height, s.Time = 12, 3456
	before := copied(s)
	first := pay("ann", 8, 200, 401, "bob", 7)
	a, r := check(t, s, first, 15)
	if !same(r, api.Reply{Key: keyOf(first), Priority: 2005}) {
		t.Errorf("the reply is %v", r)
	}
	one := api.Entry{Key: keyOf(first), Raw: first, Sender: "ann", Sequence: 8, Gas: 200, Priority: 2005, Height: 12, Time: 3456, Order: 0, Peers: []int{15}}
	want := before
	want.Arrived, want.Entries, want.Cache = 1, []api.Entry{one}, keysOf(first)
	want.App.Check = api.Ledger{Accounts: []api.Account{{Name: "ann", Balance: 592, Sequence: 9}, {Name: "bob", Balance: 12}}, Collected: 401}
	if !same(a, want) || !same(s, before) {
		t.Errorf("the state is %+v; want %+v", a, want)
	}
	a.Height, a.Time = 13, 4000
	second := pay("ann", 9, 100, 200, "cid", 1)
	b, r := check(t, a, second, 0)
	if !same(r, api.Reply{Key: keyOf(second), Priority: 2000}) {
		t.Errorf("the reply is %v", r)
	}
	two := api.Entry{Key: keyOf(second), Raw: second, Sender: "ann", Sequence: 9, Gas: 100, Priority: 2000, Height: 13, Time: 4000, Order: 1}
	want.Height, want.Time, want.Arrived, want.Entries, want.Cache = 13, 4000, 2, []api.Entry{one, two}, keysOf(first, second)
	want.App.Check = api.Ledger{Accounts: []api.Account{{Name: "ann", Balance: 391, Sequence: 10}, {Name: "bob", Balance: 12}, {Name: "cid", Balance: 1}}, Collected: 601}
	if !same(b, want) {
		t.Errorf("the state is %+v; want %+v", b, want)
	}
}

// P22.3, step 5: what has been accepted counts for the next one, and an account that it makes can send.
func TestChecksFollow(t *testing.T) {
	s := start(t, rich(), nil)
	expect(t, s, pay("new", 0, 100, 100, "ann", 5), 0, api.ErrSender)
	s = filled(t, s, pay("ann", 0, 200, 200, "new", 700))
	expect(t, s, pay("new", 0, 100, 100, "ann", 601), 0, api.ErrFunds)
	s = filled(t, s, pay("new", 0, 100, 100, "ann", 600), ranked("ann", 1, 1), ranked("ann", 2, 9))
	expect(t, s, ranked("ann", 2, 1), 0, api.ErrSequence)
	expect(t, s, ranked("ann", 4, 1), 0, api.ErrSequence)
	if len(s.App.Committed.Accounts) != 6 || s.Arrived != 4 {
		t.Errorf("the state is %+v", s)
	}
}

// P22.3, step 5: several victims leave the entries and the cache, the others stay in their order, and nothing is undone in the application.
func TestEvict(t *testing.T) {
	raws := map[byte][]byte{
		'a': ranked("ann", 0, 5), 'b': ranked("bob", 0, 1), 'c': ranked("cid", 0, 9), 'd': ranked("dan", 0, 1), 'e': ranked("eve", 0, 2),
	}
	long := func(rank uint64, transfers int) []byte {
		x := api.Tx{Sender: "fay", Gas: 1000, Fee: 1000 + 5*rank}
		for range transfers {
			x.Transfers = append(x.Transfers, api.Transfer{To: "zoe", Amount: 1})
		}
		return encoded(x)
	}
	size, total := len(raws['a']), 0
	for _, raw := range raws {
		total += len(raw)
	}
	if total != 5*size {
		t.Fatal("the transactions have different sizes")
	}
	for _, x := range []struct {
		raw  []byte
		gone string // in the order in which they leave
		stay string
	}{
		// With 11 bytes and 9 for each transfer, against 20 of each of the others.
		{long(0, 1), "!", ""}, {long(1, 1), "!", ""},
		{long(2, 1), "d", "abce"}, {long(2, 3), "d", "abce"}, {long(2, 4), "db", "ace"}, {long(2, 5), "db", "ace"}, {long(2, 6), "!", ""},
		{long(3, 6), "dbe", "ac"}, {long(3, 7), "dbe", "ac"}, {long(3, 8), "!", ""},
		{long(5, 8), "!", ""}, {long(6, 8), "dbea", "c"}, {long(6, 9), "dbea", "c"}, {long(6, 10), "!", ""},
		{long(9, 10), "!", ""}, {long(10, 10), "dbeac", ""}, {long(10, 12), "dbeac", ""}, {long(10, 13), "!", ""}, {long(10, 1), "d", "abce"},
	} {
		s := start(t, rich(), func(c *api.Config) { c.MaxBytes = total + size - 1 })
		s = filled(t, s, raws['a'], raws['b'], raws['c'], raws['d'], raws['e'])
		// The cache has another order than the entries, and lacks one of them.
		s = expect(t, s, raws['b'], 0, api.ErrCached)
		s.Cache = admit.Drop(s.Cache, keyOf(raws['e']))
		if x.gone == "!" {
			got := expect(t, s, x.raw, 0, api.ErrFull)
			checkStays(t, s, got)
			continue
		}
		got, r := check(t, s, x.raw, 2)
		var gone []api.Key
		for _, name := range []byte(x.gone) {
			gone = append(gone, keyOf(raws[name]))
		}
		var stay [][]byte
		for _, name := range []byte(x.stay) {
			stay = append(stay, raws[name])
		}
		if r.Err != api.OK || !slices.Equal(r.Evicted, gone) || r.Key != keyOf(x.raw) {
			t.Errorf("for %d bytes, %s should leave, but the reply is %v", len(x.raw), x.gone, r)
		}
		checkEntries(t, got, append(stay, x.raw)...)
		var kept []api.Key
		for _, k := range s.Cache {
			if !slices.Contains(gone, k) {
				kept = append(kept, k)
			}
		}
		checkCache(t, got, append(kept, keyOf(x.raw))...)
		if last := got.Entries[len(got.Entries)-1]; last.Order != 5 || got.Arrived != 6 {
			t.Errorf("the last entry is %v, and %d have arrived", last, got.Arrived)
		}
		for _, a := range got.App.Check.Accounts {
			if a.Name != "zoe" && a.Sequence != 1 {
				t.Errorf("an account has become %v", a)
			}
		}
	}
}

// P22.3, step 5: a transaction can evict the one of its own sender before it.
func TestEvictOwn(t *testing.T) {
	s := filled(t, start(t, rich(), func(c *api.Config) { c.MaxTxs = 1 }), ranked("ann", 0, 1))
	s = expect(t, s, ranked("ann", 1, 2), 4, api.OK)
	checkEntries(t, s, ranked("ann", 1, 2))
	checkCache(t, s, keyOf(ranked("ann", 1, 2)))
}

// P22.4: what was evicted can be sent again, but its sequence is over until the check ledger is reset.
func TestEvictedAgain(t *testing.T) {
	a, b := ranked("ann", 0, 1), ranked("bob", 0, 2)
	s := filled(t, start(t, rich(), func(c *api.Config) { c.MaxTxs = 1 }), a, b)
	s = expect(t, s, a, 0, api.ErrSequence)
	s = expect(t, s, a, 0, api.ErrSequence)
	s.App = app.Reset(s.App)
	s = expect(t, s, a, 0, api.ErrFull)
	better := ranked("ann", 0, 3)
	s = expect(t, s, better, 0, api.OK)
	checkEntries(t, s, better)
	// What was pushed out of the cache without being pending is refused by its sequence, too.
	s = start(t, rich(), func(c *api.Config) { c.MaxTxs, c.CacheSize = 1, 1 })
	s = filled(t, s, a, b)
	checkCache(t, s, keyOf(b))
	expect(t, s, a, 0, api.ErrSequence)
}

// P22.3: the application as a node changes it, with a block that was committed, or only finalized.
func TestApplications(t *testing.T) {
	a, b := ranked("ann", 0, 1), ranked("ann", 1, 2)
	s := filled(t, start(t, rich(), nil), a, b)
	open, _, e := app.Finalize(s.App, [][]byte{a})
	if e != api.OK {
		t.Fatal("Finalize has the error", e)
	}
	s.App, s.Height, s.Time = open, 1, 10
	opened := expect(t, s, ranked("ann", 2, 1), 1, api.OK)
	if !opened.App.Open || opened.App.Next.Collected != 201 {
		t.Errorf("the application is %+v", opened.App)
	}
	s.App, e = app.Commit(open)
	if e != api.OK {
		t.Fatal("Commit has the error", e)
	}
	expect(t, s, ranked("ann", 2, 1), 1, api.ErrSequence)
	s = filled(t, s, ranked("ann", 1, 3))
	if last := s.Entries[2]; last.Height != 1 || last.Time != 10 || last.Order != 2 {
		t.Errorf("the last entry is %v", last)
	}
}

// invent returns a transaction that may well be admitted, or one that came before, or not one at all.
func invent(r *rand.Rand, s api.State, old [][]byte) []byte {
	if len(old) > 0 && r.Intn(4) == 0 {
		return old[r.Intn(len(old))]
	}
	a := s.App.Check.Accounts[r.Intn(len(s.App.Check.Accounts))]
	x := api.Tx{Sender: a.Name, Sequence: a.Sequence, Gas: 400 + uint64(r.Intn(3)), Fee: 410 + uint64(r.Intn(20)), Memo: strings.Repeat("m", r.Intn(60))}
	for range 1 + r.Intn(3) {
		x.Transfers = append(x.Transfers, api.Transfer{To: fmt.Sprint("n", r.Intn(12)), Amount: 1 + uint64(r.Intn(50))})
	}
	switch r.Intn(12) {
	case 0:
		x.Sequence += uint64(r.Intn(3))
	case 1:
		x.Fee = uint64(r.Intn(410))
	case 2:
		x.Transfers[0].Amount += a.Balance
	case 3:
		return make([]byte, r.Intn(200))
	case 4:
		x.Gas = 1
	}
	return encoded(x)
}

// arbitrary returns a valid configuration with which all steps are reached.
func arbitrary(r *rand.Rand) api.Config {
	c := config.Default()
	c.MaxTxs, c.MaxBytes, c.CacheSize = 1+r.Intn(12), 100+r.Intn(900), r.Intn(30)
	c.MaxTxBytes, c.BlockBytes = 60+r.Intn(100), 60+r.Intn(100)
	c.KeepInvalid = r.Intn(2) == 0
	if r.Intn(2) == 0 {
		c.BlockGas = 400 + r.Intn(3)
	}
	return c
}

// changed returns s as a node may change it between two transactions.
func changed(t *testing.T, r *rand.Rand, s api.State) api.State {
	t.Helper()
	switch r.Intn(12) {
	case 0:
		s.App = app.Reset(s.App)
	case 1:
		var raws [][]byte
		for _, e := range s.Entries {
			raws = append(raws, e.Raw)
		}
		open, _, e := app.Finalize(s.App, raws)
		if e != api.OK {
			t.Fatal("Finalize has the error", e)
		}
		s.App, _ = app.Commit(open)
		s.Height++
	case 2, 3:
		s.Time += r.Intn(100)
	}
	return s
}

// checkBounds checks what P22.4 says about every state.
func checkBounds(t *testing.T, s api.State) {
	t.Helper()
	keys, bytes := map[api.Key]bool{}, 0
	for i, e := range s.Entries {
		keys[e.Key] = true
		bytes += len(e.Raw)
		if e.Key != keyOf(e.Raw) || e.Order >= s.Arrived || i > 0 && e.Order <= s.Entries[i-1].Order {
			t.Fatalf("the entry %d is %v", i, e)
		}
	}
	cached := map[api.Key]bool{}
	for _, k := range s.Cache {
		cached[k] = true
	}
	c := s.Config
	if len(s.Entries) > c.MaxTxs || bytes > c.MaxBytes || len(s.Cache) > c.CacheSize || len(keys) != len(s.Entries) || len(cached) != len(s.Cache) {
		t.Fatalf("there are %d entries with %d bytes and %d keys, and %d keys in the cache, %d of them different: %+v", len(s.Entries), bytes, len(keys), len(s.Cache), len(cached), c)
	}
}

// checkVictims checks what P22.4 says about an admission: only entries of lesser priority leave.
func checkVictims(t *testing.T, s api.State, r api.Reply) {
	t.Helper()
	for _, k := range r.Evicted {
		if i := admit.Pending(s, k); i < 0 || s.Entries[i].Priority >= r.Priority {
			t.Fatalf("%x left for the priority %d", k, r.Priority)
		}
	}
}

// P22.3 and P22.4: long sequences of transactions, behind which all earlier states are what they were.
func TestSequences(t *testing.T) {
	counts := map[api.Errno]int{}
	evicted, again := 0, 0
	for seed := range 60 {
		r := rand.New(rand.NewSource(int64(seed)))
		c := arbitrary(r)
		var accounts []api.Account
		for i := range 8 {
			accounts = append(accounts, api.Account{Name: fmt.Sprint("n", i), Balance: 30000, Sequence: uint64(i)})
		}
		s := start(t, accounts, func(d *api.Config) { *d = c })
		var states, copies []api.State
		var old [][]byte
		for range 120 {
			s = changed(t, r, s)
			states, copies = append(states, s), append(copies, copied(s))
			raw := invent(r, s, old)
			old = append(old, raw)
			next, reply := check(t, s, raw, r.Intn(20)-2)
			checkBounds(t, next)
			checkVictims(t, s, reply)
			counts[reply.Err]++
			evicted += len(reply.Evicted)
			if len(reply.Evicted) > 1 {
				again++
			}
			s = next
		}
		for i := range states {
			if !same(states[i], copies[i]) {
				t.Fatalf("the state %d of the sequence %d was changed", i, seed)
			}
		}
	}
	for _, e := range []api.Errno{api.OK, api.ErrTooLarge, api.ErrPreCheck, api.ErrCached, api.ErrSequence, api.ErrGas, api.ErrFee, api.ErrFunds, api.ErrEncoding, api.ErrPostCheck, api.ErrFull} {
		if counts[e] < 20 {
			t.Errorf("the error %d occurs only %d times", e, counts[e])
		}
	}
	if evicted < 200 || again < 20 {
		t.Errorf("only %d entries were evicted, several at once %d times", evicted, again)
	}
}

// P22.3: a pool with as many entries, bytes and keys as there can be.
func TestLargest(t *testing.T) {
	accounts := []api.Account{{Name: "ann", Balance: 1 << 40}, {Name: "bob", Balance: 1 << 40}}
	s := start(t, accounts, func(c *api.Config) { c.MaxTxs, c.MaxBytes, c.CacheSize = api.MaxEntries, api.MaxBytes, api.MaxCache })
	step := func(raw []byte) api.Reply {
		next, r := admit.Check(s, raw, 0)
		s = next
		return r
	}
	var raws [][]byte
	for i := range uint64(api.MaxEntries) {
		raws = append(raws, ranked("ann", i, i%7))
		if r := step(raws[i]); r.Err != api.OK || len(r.Evicted) != 0 {
			t.Fatalf("the reply %d is %v", i, r)
		}
	}
	if len(s.Entries) != api.MaxEntries || s.Arrived != api.MaxEntries {
		t.Fatalf("there are %d entries", len(s.Entries))
	}
	if _, r := check(t, s, ranked("bob", 0, 0), 0); r.Err != api.ErrFull {
		t.Errorf("the reply is %v", r)
	}
	// Those with the rank 0 leave, the last one first.
	for i, at := range []int{511, 504, 497, 490} {
		if r := step(ranked("bob", uint64(i), 100)); !slices.Equal(r.Evicted, keysOf(raws[at])) {
			t.Errorf("the reply is %v", r)
		}
	}
	for i := range uint64(api.MaxCache) {
		step(ranked("bob", 4+i, 100))
	}
	check(t, s, ranked("bob", 4+api.MaxCache, 100), 0)
	check(t, s, ranked("bob", 4+api.MaxCache, 101), 0)
	check(t, s, ranked("bob", 99, 100), 0)
	checkBounds(t, s)
}

// R1: states that no function returns give some result, and are left as they are.
func TestOtherStates(t *testing.T) {
	raw := ranked("ann", 0, 1)
	good := filled(t, start(t, rich(), nil), ranked("bob", 0, 1))
	broken := []api.State{{}, {Entries: make([]api.Entry, 600)}, {Cache: make([]api.Key, 2000)}}
	for _, c := range []api.Config{{MaxTxs: -1}, {MaxTxs: 5, MaxBytes: math.MaxInt, MaxTxBytes: math.MaxInt, BlockBytes: math.MaxInt, BlockGas: math.MinInt, CacheSize: math.MinInt}, {MaxTxs: math.MaxInt, MaxBytes: math.MinInt, MaxTxBytes: 1000, BlockBytes: 1000, BlockGas: -2, CacheSize: math.MaxInt}} {
		s := copied(good)
		s.Config, s.Arrived, s.Height, s.Time = c, math.MaxInt, math.MinInt, -1
		broken = append(broken, s)
		s.Entries = append(s.Entries, s.Entries[0], api.Entry{}, api.Entry{Key: keyOf(raw), Peers: []int{-5, 99, 3, 3}})
		s.Cache = append(s.Cache, s.Cache[0], s.Cache[0])
		broken = append(broken, s)
	}
	s := copied(good)
	slices.Reverse(s.App.Check.Accounts)
	for _, s := range append(broken, s) {
		for _, b := range [][]byte{nil, raw, ranked("bob", 0, 1), ranked("bob", 1, 9), make([]byte, 10000)} {
			for _, peer := range []int{math.MinInt, -1, 0, 3, math.MaxInt} {
				given := roomy(s)
				before := whole(given)
				got, reply := admit.Check(given, b, peer)
				if !reflect.DeepEqual(whole(given), before) {
					t.Fatal("Check has changed its argument")
				}
				checkApart(t, given, b, got, reply)
			}
		}
		admit.Pending(s, api.Key{})
	}
}
