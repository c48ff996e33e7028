package ledger_test

import (
	"cmp"
	"crypto/sha256"
	"encoding/binary"
	"fmt"
	"math"
	"math/big"
	"math/rand"
	"regexp"
	"slices"
	"strings"
	"testing"

	"mempool/api"
	"mempool/ledger"
	"mempool/merkle"
)

const top = math.MaxUint64

// of returns the ledger with these accounts, and nothing collected.
func of(accounts ...api.Account) api.Ledger {
	return api.Ledger{Accounts: accounts}
}

// named returns accounts with these names, which differ in their balances and sequences, too.
func named(names ...string) []api.Account {
	var l []api.Account
	for i, name := range names {
		l = append(l, api.Account{Name: name, Balance: uint64(10 + i), Sequence: uint64(20 + i)})
	}
	return l
}

// paid returns accounts in order with these balances.
func paid(balances ...uint64) []api.Account {
	l := many(len(balances))
	for i, n := range balances {
		l[i].Balance = n
	}
	return l
}

// many returns n accounts in order, between which there is room for other names.
func many(n int) []api.Account {
	var l []api.Account
	for i := range n {
		l = append(l, api.Account{Name: fmt.Sprintf("n%04d", 2*i), Balance: uint64(10 + i), Sequence: uint64(20 + i)})
	}
	return l
}

// between returns a name that comes directly behind that of the account i of many.
func between(i int) string {
	return fmt.Sprintf("n%04d", 2*i+1)
}

// same reports whether a and b are equal.
func same(a, b api.Ledger) bool {
	return slices.Equal(a.Accounts, b.Accounts) && a.Collected == b.Collected
}

// brief returns the beginning of a list, for reports.
func brief(l []api.Account) string {
	return fmt.Sprint(len(l), " accounts ", l[:min(len(l), 8)])
}

// exact returns the total of l.
func exact(l api.Ledger) *big.Int {
	n := new(big.Int).SetUint64(l.Collected)
	for _, a := range l.Accounts {
		n.Add(n, new(big.Int).SetUint64(a.Balance))
	}
	return n
}

// total says what the chapter says of Total.
func total(l api.Ledger) (uint64, bool) {
	n := exact(l)
	if !n.IsUint64() {
		return 0, false
	}
	return n.Uint64(), true
}

var nameForm = regexp.MustCompile(`\A[a-z0-9-]{1,20}\z`)

// judge says what the chapter says of Validate.
func judge(l api.Ledger) api.Errno {
	var found []api.Errno
	find := func(wrong bool, e api.Errno) {
		if wrong {
			found = append(found, e)
		}
	}
	find(len(l.Accounts) > 256, api.ErrLimit)
	for i, a := range l.Accounts {
		find(!nameForm.MatchString(a.Name), api.ErrName)
		find(i > 0 && l.Accounts[max(i, 1)-1].Name == a.Name, api.ErrDuplicate)
		find(i > 0 && l.Accounts[max(i, 1)-1].Name > a.Name, api.ErrArgument)
	}
	_, ok := total(l)
	find(!ok, api.ErrOverflow)
	return append(found, api.OK)[0]
}

// sorted returns the accounts in the order of their names.
func sorted(l []api.Account) []api.Account {
	return slices.SortedFunc(slices.Values(l), func(a, b api.Account) int { return cmp.Compare(a.Name, b.Name) })
}

// genesis says what the chapter says of Genesis.
func genesis(accounts []api.Account) (api.Ledger, api.Errno) {
	var found []api.Errno
	if len(accounts) > 256 {
		found = append(found, api.ErrLimit)
	}
	seen := map[string]bool{}
	for _, a := range accounts {
		if !nameForm.MatchString(a.Name) {
			found = append(found, api.ErrName)
		}
		if seen[a.Name] {
			found = append(found, api.ErrDuplicate)
		}
		seen[a.Name] = true
	}
	if _, ok := total(of(accounts...)); !ok {
		found = append(found, api.ErrOverflow)
	}
	if len(found) > 0 {
		return api.Ledger{}, found[0]
	}
	return of(sorted(accounts)...), api.OK
}

// get says what the chapter says of Get.
func get(l api.Ledger, name string) (api.Account, bool) {
	i := slices.IndexFunc(l.Accounts, func(a api.Account) bool { return a.Name == name })
	if i < 0 {
		return api.Account{}, false
	}
	return l.Accounts[i], true
}

// set says what the chapter says of Set.
func set(l api.Ledger, a api.Account) (api.Ledger, api.Errno) {
	if e := judge(l); e != api.OK {
		return api.Ledger{}, e
	}
	if !nameForm.MatchString(a.Name) {
		return api.Ledger{}, api.ErrName
	}
	others := slices.DeleteFunc(slices.Clone(l.Accounts), func(b api.Account) bool { return b.Name == a.Name })
	r := api.Ledger{Accounts: sorted(append(others, a)), Collected: l.Collected}
	if len(r.Accounts) > 256 {
		return api.Ledger{}, api.ErrLimit
	}
	if _, ok := total(r); !ok {
		return api.Ledger{}, api.ErrOverflow
	}
	return r, api.OK
}

// root says what chapter 6 says of the root of leaves, of which there is at least one.
func root(leaves [][]byte) api.Key {
	if len(leaves) == 1 {
		return sha256.Sum256(append([]byte{0}, leaves[0]...))
	}
	k := 1
	for 2*k < len(leaves) {
		k *= 2
	}
	x, y := root(leaves[:k]), root(leaves[k:])
	return sha256.Sum256(slices.Concat([]byte{1}, x[:], y[:]))
}

// digest says what the chapter says of Digest.
func digest(l api.Ledger) api.Key {
	var leaves [][]byte
	for _, a := range l.Accounts {
		b := append(binary.AppendUvarint([]byte{10}, uint64(len(a.Name))), a.Name...)
		b = binary.AppendUvarint(append(b, 16), a.Balance)
		leaves = append(leaves, binary.AppendUvarint(append(b, 24), a.Sequence))
	}
	return root(append(leaves, binary.AppendUvarint([]byte{32}, l.Collected)))
}

// spare fills the spare capacity of arguments. It is a name that comes behind many others, so that it could pass for an account.
var spare = api.Account{Name: "zzz-spare", Balance: 1, Sequence: 1}

// guarded returns a copy of l with spare capacity, and a function that reports whether both are still what they were.
func guarded(l []api.Account) (copied []api.Account, kept func() bool) {
	all := append(slices.Clone(l), spare, spare, spare)
	before := slices.Clone(all)
	return all[:len(l)], func() bool { return slices.Equal(all, before) }
}

// overwrite changes all the memory of l.
func overwrite(l []api.Account) {
	l = l[:cap(l)]
	for i := range l {
		l[i] = api.Account{Name: "overwritten", Balance: 99, Sequence: 99}
	}
}

// checkTotal checks that Total of l returns want and ok.
func checkTotal(t *testing.T, l api.Ledger, want uint64, ok bool) {
	t.Helper()
	accounts, kept := guarded(l.Accounts)
	n, is := ledger.Total(api.Ledger{Accounts: accounts, Collected: l.Collected})
	if n != want || is != ok {
		t.Errorf("Total(%s, %d) = %d, %v; want %d, %v", brief(l.Accounts), l.Collected, n, is, want, ok)
	}
	if !kept() {
		t.Errorf("Total has changed its argument %s", brief(l.Accounts))
	}
}

// checkValidate checks that Validate of l returns e.
func checkValidate(t *testing.T, l api.Ledger, e api.Errno) {
	t.Helper()
	accounts, kept := guarded(l.Accounts)
	if f := ledger.Validate(api.Ledger{Accounts: accounts, Collected: l.Collected}); f != e {
		t.Errorf("Validate(%s, %d) = %d; want %d", brief(l.Accounts), l.Collected, f, e)
	}
	if !kept() {
		t.Errorf("Validate has changed its argument %s", brief(l.Accounts))
	}
}

// checkGenesis checks that Genesis of the accounts returns these ones, in this order, and e, in memory of its own.
func checkGenesis(t *testing.T, accounts, want []api.Account, e api.Errno) {
	t.Helper()
	copied, kept := guarded(accounts)
	got, f := ledger.Genesis(copied)
	if f != e || !same(got, of(want...)) {
		t.Errorf("Genesis(%s) = %s, %d, %d; want %s, 0, %d", brief(accounts), brief(got.Accounts), got.Collected, f, brief(want), e)
	}
	if f == api.OK && ledger.Validate(got) != api.OK {
		t.Errorf("Genesis(%s) = %s, which is not valid", brief(accounts), brief(got.Accounts))
	}
	overwrite(got.Accounts)
	if !kept() {
		t.Errorf("Genesis has changed its argument %s, or shares its memory", brief(accounts))
	}
}

// checkRefused checks that Genesis of the accounts returns no ledger, and e.
func checkRefused(t *testing.T, accounts []api.Account, e api.Errno) {
	t.Helper()
	checkGenesis(t, accounts, nil, e)
}

// checkGet checks that Get of l and this name returns want and ok.
func checkGet(t *testing.T, l []api.Account, name string, want api.Account, ok bool) {
	t.Helper()
	accounts, kept := guarded(l)
	got, is := ledger.Get(of(accounts...), name)
	if got != want || is != ok {
		t.Errorf("Get(%s, %q) = %v, %v; want %v, %v", brief(l), name, got, is, want, ok)
	}
	if !kept() {
		t.Errorf("Get has changed its argument %s", brief(l))
	}
}

// checkSet checks that Set of l and a returns want and e, in memory of its own.
func checkSet(t *testing.T, l api.Ledger, a api.Account, want api.Ledger, e api.Errno) {
	t.Helper()
	accounts, kept := guarded(l.Accounts)
	got, f := ledger.Set(api.Ledger{Accounts: accounts, Collected: l.Collected}, a)
	if f != e || !same(got, want) {
		t.Errorf("Set(%s, %d, %v) = %s, %d, %d; want %s, %d, %d", brief(l.Accounts), l.Collected, a, brief(got.Accounts), got.Collected, f, brief(want.Accounts), want.Collected, e)
	}
	if f == api.OK && ledger.Validate(got) != api.OK {
		t.Errorf("Set(%s, %d, %v) = %s, %d, which is not valid", brief(l.Accounts), l.Collected, a, brief(got.Accounts), got.Collected)
	}
	overwrite(got.Accounts)
	if !kept() {
		t.Errorf("Set has changed its argument %s, or shares its memory", brief(l.Accounts))
	}
}

// checkUnset checks that Set of l and a returns no ledger, and e.
func checkUnset(t *testing.T, l api.Ledger, a api.Account, e api.Errno) {
	t.Helper()
	checkSet(t, l, a, api.Ledger{}, e)
}

// checkDigest checks that Digest of l returns the root of these leaves.
func checkDigest(t *testing.T, l api.Ledger, leaves ...[]byte) {
	t.Helper()
	accounts, kept := guarded(l.Accounts)
	got := ledger.Digest(api.Ledger{Accounts: accounts, Collected: l.Collected})
	if got != root(leaves) || got != merkle.Root(leaves) {
		t.Errorf("Digest(%s, %d) = %x; want the root of %d", brief(l.Accounts), l.Collected, got, leaves)
	}
	if !kept() {
		t.Errorf("Digest has changed its argument %s", brief(l.Accounts))
	}
}

// checkDefined checks that the results of all functions for l are those of the definitions.
func checkDefined(t *testing.T, l api.Ledger) {
	t.Helper()
	n, ok := total(l)
	checkTotal(t, l, n, ok)
	checkValidate(t, l, judge(l))
	want, e := genesis(l.Accounts)
	checkGenesis(t, l.Accounts, want.Accounts, e)
	if got := ledger.Digest(l); got != digest(l) {
		t.Errorf("Digest(%s, %d) = %x; want %x", brief(l.Accounts), l.Collected, got, digest(l))
	}
}

// orders returns all orders of the numbers below n.
func orders(n int) [][]int {
	if n == 0 {
		return [][]int{{}}
	}
	var l [][]int
	for _, x := range orders(n - 1) {
		for i := range n {
			l = append(l, slices.Insert(slices.Clone(x), i, n-1))
		}
	}
	return l
}

// shuffled returns the accounts in another order.
func shuffled(r *rand.Rand, l []api.Account) []api.Account {
	m := slices.Clone(l)
	r.Shuffle(len(m), func(i, j int) { m[i], m[j] = m[j], m[i] })
	return m
}

// badNames lists strings that are no names.
func badNames() []string {
	return []string{"", "A", "Bob", "a_", "_", "a b", " ", "a ", ".", "/", ":", "{", "`", "@", "é", "ａ", "a\x00", "\x00", "\xff", "a\n", strings.Repeat("a", 21), strings.Repeat("n", 300)}
}

// goodNames lists names, in ascending order.
func goodNames() []string {
	return []string{
		"-", "--", "-----", "-0", "-a", "0", "0-", "00", "09", "0a", "1", "10", "9", "a", "a-", "a--", "a-b", "a0", "a9", "aa", "aa-", "aaa", "ab", "abc", "abcd",
		"b", "b-", "ba", "bob", "bob-", "bob1", "bobb", "y", "z", "z9", "zz", strings.Repeat("z", 19), strings.Repeat("z", 19) + "-", strings.Repeat("z", 20),
	}
}

// The examples of the chapter.
func TestExamples(t *testing.T) {
	a, b, c := api.Account{Name: "a", Balance: 1, Sequence: 2}, api.Account{Name: "b", Balance: 3, Sequence: 4}, api.Account{Name: "c", Balance: 5, Sequence: 6}
	checkGenesis(t, []api.Account{b, a}, []api.Account{a, b}, api.OK)
	checkSet(t, of(a, c), b, of(a, b, c), api.OK)
	checkSet(t, of(b, c), a, of(a, b, c), api.OK)
	checkSet(t, of(a, b), c, of(a, b, c), api.OK)
	checkRefused(t, []api.Account{{Name: "a", Balance: 1 << 63}, {Name: "b", Balance: 1 << 63}}, api.ErrOverflow)
}

// P11.1: no account, one and many, with and without Collected.
func TestTotal(t *testing.T) {
	for _, x := range []struct {
		balances  []uint64
		collected uint64
		want      uint64
		ok        bool
	}{
		{nil, 0, 0, true}, {nil, 1, 1, true}, {nil, 300, 300, true}, {nil, top, top, true},
		{[]uint64{0}, 0, 0, true}, {[]uint64{5}, 0, 5, true}, {[]uint64{5}, 7, 12, true}, {[]uint64{0}, 7, 7, true}, {[]uint64{1, 2, 4}, 8, 15, true}, {[]uint64{7, 7, 7, 7}, 7, 35, true},
		{[]uint64{top}, 0, top, true}, {[]uint64{top - 1}, 1, top, true}, {[]uint64{1}, top - 1, top, true}, {[]uint64{0, 0}, top, top, true}, {[]uint64{1 << 63}, 1<<63 - 1, top, true}, {[]uint64{1 << 63, 1<<63 - 1}, 0, top, true}, {[]uint64{1 << 63, 1<<63 - 2}, 1, top, true},
		{[]uint64{top}, 1, 0, false}, {[]uint64{1}, top, 0, false}, {[]uint64{top, 1}, 0, 0, false}, {[]uint64{1, top}, 0, 0, false}, {[]uint64{1 << 63}, 1 << 63, 0, false}, {[]uint64{1 << 63, 1 << 63}, 0, 0, false}, {[]uint64{1 << 63, 1<<63 - 1}, 1, 0, false}, {[]uint64{top}, top, 0, false},
	} {
		checkTotal(t, api.Ledger{Accounts: paid(x.balances...), Collected: x.collected}, x.want, x.ok)
	}
}

// P11.1: sums that become small again when they wrap around, at every place.
func TestTotalInBetween(t *testing.T) {
	for _, balances := range [][]uint64{{1 << 63, 1 << 63, 5}, {top, 1, 5}, {top, 2, top - 1}, {top, top, 2, 7}, {1 << 62, 1 << 62, 1 << 62, 1 << 62, 1}, {top, top, top}} {
		for k := range 4 {
			l := slices.Insert(slices.Clone(balances), k%len(balances), 0)
			checkTotal(t, of(paid(l...)...), 0, false)
			checkTotal(t, api.Ledger{Accounts: paid(l...), Collected: 3}, 0, false)
			checkTotal(t, api.Ledger{Accounts: paid(l[1:]...), Collected: l[0]}, 0, false)
		}
	}
	// Every list of up to four of these amounts, and Collected.
	amounts := []uint64{0, 1, 2, 1<<63 - 1, 1 << 63, top - 1, top}
	for _, l := range lists(amounts, 4) {
		for _, collected := range amounts {
			x := api.Ledger{Accounts: paid(l...), Collected: collected}
			n, ok := total(x)
			checkTotal(t, x, n, ok)
		}
	}
}

// lists returns all lists of at most n of the elements.
func lists[T any](elements []T, n int) [][]T {
	all, last := [][]T{nil}, [][]T{nil}
	for range n {
		var next [][]T
		for _, l := range last {
			for _, x := range elements {
				next = append(next, append(slices.Clone(l), x))
			}
		}
		all, last = append(all, next...), next
	}
	return all
}

// P11.1: many accounts, whose total is 2^64 - 1 or one more, wherever the one more is.
func TestTotalOfMany(t *testing.T) {
	for _, n := range []int{1, 2, 3, 10, 100, 255, 256, 257, 1000} {
		share := uint64(top) / uint64(n+1)
		l := api.Ledger{Accounts: many(n), Collected: top - share*uint64(n)}
		for i := range l.Accounts {
			l.Accounts[i].Balance = share
		}
		checkTotal(t, l, top, true)
		l.Collected++
		checkTotal(t, l, 0, false)
		l.Collected -= 2
		checkTotal(t, l, top-1, true)
		for i := range l.Accounts {
			l.Accounts[i].Balance++
			checkTotal(t, l, top, true)
			l.Accounts[i].Balance++
			checkTotal(t, l, 0, false)
			l.Accounts[i].Balance = share
		}
	}
}

// P11.1: Total does not ask whether the ledger is valid, nor for Sequences.
func TestTotalOfAnyList(t *testing.T) {
	for _, names := range [][]string{{"", "", ""}, {"a", "a", "a"}, {"c", "b", "a"}, {"?", "A", strings.Repeat("a", 21)}, {"b", "b", "a"}} {
		l := api.Ledger{Accounts: named(names...), Collected: 100}
		checkTotal(t, l, 133, true)
		for i := range l.Accounts {
			l.Accounts[i].Sequence = top
		}
		checkTotal(t, l, 133, true)
		l.Accounts[1].Balance = top
		checkTotal(t, l, 0, false)
	}
}

// P11.1: ledgers that are valid.
func TestValid(t *testing.T) {
	checkValidate(t, api.Ledger{}, api.OK)
	checkValidate(t, api.Ledger{Accounts: []api.Account{}, Collected: top}, api.OK)
	checkValidate(t, of(named(goodNames()...)...), api.OK)
	for _, name := range goodNames() {
		checkValidate(t, of(named(name)...), api.OK)
		checkValidate(t, of(api.Account{Name: name, Balance: top, Sequence: top}), api.OK)
		checkValidate(t, of(api.Account{Name: name}), api.OK)
	}
	for _, n := range []int{1, 2, 3, 10, 254, 255, 256} {
		checkValidate(t, of(many(n)...), api.OK)
	}
	// Sequences do not count.
	l := many(5)
	for i := range l {
		l[i].Sequence = top
	}
	checkValidate(t, of(l...), api.OK)
}

// P11.1: the order of two names, alone and behind and before others.
func TestValidateOrder(t *testing.T) {
	for i, x := range goodNames() {
		for j, y := range goodNames() {
			e := api.OK
			switch {
			case i == j:
				e = api.ErrDuplicate
			case i > j:
				e = api.ErrArgument
			}
			checkValidate(t, of(named(x, y)...), e)
			checkValidate(t, of(named("-", x, y)...), first(order("-", x), e))
			checkValidate(t, of(named(x, y, strings.Repeat("z", 20))...), first(e, order(y, strings.Repeat("z", 20))))
			// The error of the total comes last.
			l := named(x, y)
			l[0].Balance, l[1].Balance = 1<<63, 1<<63
			checkValidate(t, of(l...), first(e, api.ErrOverflow))
		}
	}
}

// order returns the error of a name behind another one, both of which are names.
func order(before, name string) api.Errno {
	switch {
	case before == name:
		return api.ErrDuplicate
	case before > name:
		return api.ErrArgument
	}
	return api.OK
}

// first returns the first error of l, or OK.
func first(l ...api.Errno) api.Errno {
	for _, e := range l {
		if e != api.OK {
			return e
		}
	}
	return api.OK
}

// P11.1: names in falling order, names of which one begins with the other, and the same name apart.
func TestValidateNames(t *testing.T) {
	for _, x := range []struct {
		names []string
		e     api.Errno
	}{
		{[]string{"c", "b", "a"}, api.ErrArgument}, {[]string{"z", "y"}, api.ErrArgument}, {[]string{"a", "c", "b"}, api.ErrArgument}, {[]string{"b", "a", "c"}, api.ErrArgument}, {[]string{"a", "b", "c", "d", "a"}, api.ErrArgument},
		{[]string{"aa", "a"}, api.ErrArgument}, {[]string{"a", "aa"}, api.OK}, {[]string{"a", "aa", "aaa", "aaaa"}, api.OK}, {[]string{"aaaa", "aaa", "aa", "a"}, api.ErrArgument}, {[]string{"a", "ab", "abc", "b"}, api.OK}, {[]string{"ab", "b", "abc"}, api.ErrArgument}, {[]string{"b", "ab"}, api.ErrArgument}, {[]string{"ab", "b"}, api.OK}, {[]string{"aab", "ab"}, api.OK}, {[]string{"ab", "aab"}, api.ErrArgument}, {[]string{"10", "9"}, api.OK}, {[]string{"9", "10"}, api.ErrArgument}, {[]string{"a-", "a"}, api.ErrArgument}, {[]string{"a-", "aa"}, api.OK}, {[]string{"aa", "a-"}, api.ErrArgument},
		{[]string{"a", "a"}, api.ErrDuplicate}, {[]string{"a", "b", "b"}, api.ErrDuplicate}, {[]string{"a", "b", "b", "c"}, api.ErrDuplicate}, {[]string{"a", "a", "b"}, api.ErrDuplicate}, {[]string{"a", "a", "a"}, api.ErrDuplicate}, {[]string{"ab", "ab"}, api.ErrDuplicate},
		{[]string{"a", "b", "a"}, api.ErrArgument}, {[]string{"b", "a", "b"}, api.ErrArgument}, {[]string{"a", "c", "b", "c"}, api.ErrArgument},
		{[]string{"a", "a", "b", "a"}, api.ErrDuplicate}, {[]string{"a", "b", "a", "a"}, api.ErrArgument},
	} {
		checkValidate(t, of(named(x.names...)...), x.e)
	}
}

// fault spoils the account i of a ledger, which has another one before it if the fault needs one.
type fault struct {
	what    string
	e       api.Errno
	needs   int
	spoiled func(l []api.Account, i int) string
}

// faults lists what can be wrong with the name of an account, and nothing but that.
func faults() []fault {
	return []fault{
		{"name", api.ErrName, 0, func(l []api.Account, i int) string { return l[i].Name + "_" }},
		{"long name", api.ErrName, 0, func(l []api.Account, i int) string { return l[i].Name + strings.Repeat("0", 16) }},
		{"duplicate", api.ErrDuplicate, 1, func(l []api.Account, i int) string { return l[i-1].Name }},
		{"order", api.ErrArgument, 1, func(l []api.Account, i int) string { return "a" }},
		{"close order", api.ErrArgument, 1, func(l []api.Account, i int) string { return l[i-1].Name[:max(len(l[i-1].Name)-1, 0)] }},
		// Not a name, and less than the one before, too.
		{"name and order", api.ErrName, 0, func(l []api.Account, i int) string { return "" }},
		{"other name and order", api.ErrName, 0, func(l []api.Account, i int) string { return "N" }},
	}
}

// P11.1: each error alone, at every place, in ledgers of several sizes.
func TestFault(t *testing.T) {
	for _, n := range []int{1, 2, 6, 255, 256} {
		for _, f := range faults() {
			for i := f.needs; i < n; i++ {
				l := many(n)
				l[i].Name = f.spoiled(l, i)
				checkValidate(t, of(l...), f.e)
				// With a total that is too large: this error comes last.
				l[0].Balance = top
				checkValidate(t, api.Ledger{Accounts: l, Collected: 1}, f.e)
			}
		}
	}
	for _, name := range badNames() {
		for i := range 3 {
			l := many(3)
			l[i].Name = name
			checkValidate(t, of(l...), api.ErrName)
			checkValidate(t, of(api.Account{Name: name}), api.ErrName)
			checkValidate(t, of(named(name, name)...), api.ErrName)
		}
	}
	for _, n := range []int{0, 1, 2, 6, 255, 256} {
		l := api.Ledger{Accounts: many(n)}
		rest, _ := total(l)
		l.Collected = top - rest
		checkValidate(t, l, api.OK)
		if n > 0 {
			l.Collected++
			checkValidate(t, l, api.ErrOverflow)
		}
	}
}

// P11.1: two errors at two accounts: the first account counts, not the first kind of error.
func TestFirstFault(t *testing.T) {
	for _, f := range faults() {
		for _, g := range faults() {
			for i := f.needs; i < 6; i++ {
				for j := max(i+1, g.needs); j < 6; j++ {
					l := many(6)
					l[i].Name = f.spoiled(l, i)
					l[j].Name = g.spoiled(l, j)
					checkValidate(t, of(l...), f.e)
				}
			}
		}
	}
}

// P11.1: more than MaxAccounts accounts, with every other error.
func TestMaxAccounts(t *testing.T) {
	for _, n := range []int{257, 258, 300, 1000} {
		l := many(n)
		checkValidate(t, of(l...), api.ErrLimit)
		checkValidate(t, api.Ledger{Accounts: l, Collected: top}, api.ErrLimit)
		checkValidate(t, of(make([]api.Account, n)...), api.ErrLimit)
		for _, f := range faults() {
			for _, i := range []int{f.needs, 5, 255, 256, n - 1} {
				l := many(n)
				l[i].Name = f.spoiled(l, i)
				checkValidate(t, of(l...), api.ErrLimit)
			}
		}
	}
	checkValidate(t, of(make([]api.Account, 256)...), api.ErrName)
}

// P11.2: no account, one, and many in order.
func TestGenesis(t *testing.T) {
	checkGenesis(t, nil, nil, api.OK)
	checkGenesis(t, []api.Account{}, nil, api.OK)
	for _, name := range goodNames() {
		l := []api.Account{{Name: name, Balance: top, Sequence: top}}
		checkGenesis(t, l, l, api.OK)
		l = []api.Account{{Name: name}}
		checkGenesis(t, l, l, api.OK)
	}
	for _, n := range []int{1, 2, 3, 10, 254, 255, 256} {
		checkGenesis(t, many(n), many(n), api.OK)
	}
	checkGenesis(t, named(goodNames()...), named(goodNames()...), api.OK)
}

// P11.2, P11.5: the ledger is the same for every order of the accounts.
func TestGenesisOrder(t *testing.T) {
	want := named("-", "0", "a", "a-", "aa", "b", "z")
	for n := range len(want) + 1 {
		for _, order := range orders(n) {
			l := make([]api.Account, n)
			for i, k := range order {
				l[i] = want[k]
			}
			checkGenesis(t, l, want[:n], api.OK)
		}
	}
	r := rand.New(rand.NewSource(1))
	for _, want := range [][]api.Account{many(256), many(255), many(100), named(goodNames()...)} {
		for range 20 {
			checkGenesis(t, shuffled(r, want), want, api.OK)
		}
		l := slices.Clone(want)
		slices.Reverse(l)
		checkGenesis(t, l, want, api.OK)
	}
}

// P11.2: a name that is not valid, and one that occurs twice, at every place.
func TestGenesisFault(t *testing.T) {
	r := rand.New(rand.NewSource(2))
	for _, n := range []int{1, 2, 3, 7, 60} {
		for i := range n {
			l := shuffled(r, many(n))
			l[i].Name += "_"
			checkRefused(t, l, api.ErrName)
			for j := range i {
				// The same account, or only the same name.
				l = shuffled(r, many(n))
				l[i] = l[j]
				checkRefused(t, l, api.ErrDuplicate)
				l = shuffled(r, many(n))
				l[i].Name = l[j].Name
				checkRefused(t, l, api.ErrDuplicate)
				l[i].Balance, l[i].Sequence = 0, 0
				checkRefused(t, l, api.ErrDuplicate)
			}
		}
	}
	for _, name := range badNames() {
		checkRefused(t, named(name), api.ErrName)
		checkRefused(t, named("a", name, "b"), api.ErrName)
		checkRefused(t, named(name, name), api.ErrName)
	}
	for _, name := range goodNames() {
		checkRefused(t, named(name, name), api.ErrDuplicate)
		checkRefused(t, named("q", name, "r", name), api.ErrDuplicate)
	}
}

// P11.2: MaxAccounts accounts, in order and not, with a fault at the first or the last place, and more accounts.
func TestGenesisMaxAccounts(t *testing.T) {
	r := rand.New(rand.NewSource(3))
	for _, n := range []int{256, 257, 258, 1000} {
		report := func(e api.Errno) api.Errno {
			if n > 256 {
				return api.ErrLimit
			}
			return e
		}
		for range 5 {
			l := shuffled(r, many(n))
			if n > 256 {
				checkRefused(t, l, api.ErrLimit)
				checkRefused(t, many(n), api.ErrLimit)
			}
			for _, ends := range [][2]int{{0, n - 1}, {0, 1}, {n - 2, n - 1}, {n / 2, n/2 + 1}, {100, 200}} {
				for _, k := range ends {
					spoiled := slices.Clone(l)
					spoiled[k].Name = ""
					checkRefused(t, spoiled, report(api.ErrName))
				}
				spoiled := slices.Clone(l)
				spoiled[ends[0]].Name = spoiled[ends[1]].Name
				checkRefused(t, spoiled, report(api.ErrDuplicate))
			}
			l[n-1].Balance = top
			checkRefused(t, l, report(api.ErrOverflow))
		}
	}
	checkRefused(t, make([]api.Account, 256), api.ErrName)
	checkRefused(t, make([]api.Account, 257), api.ErrLimit)
	// MaxAccounts balances that give exactly 2^64 - 1, and one more.
	l := many(256)
	for i := range l {
		l[i].Balance = 1 << 56
	}
	checkRefused(t, shuffled(r, l), api.ErrOverflow)
	for i := range l {
		l[i].Balance--
		checkGenesis(t, shuffled(r, l), l, api.OK)
		l[i].Balance++
	}
}

// P11.2: sums of balances.
func TestGenesisOverflow(t *testing.T) {
	for _, x := range []struct {
		balances []uint64
		e        api.Errno
	}{
		{[]uint64{top}, api.OK}, {[]uint64{top, 0}, api.OK}, {[]uint64{0, top}, api.OK}, {[]uint64{top - 1, 1}, api.OK}, {[]uint64{1, top - 1}, api.OK}, {[]uint64{1 << 63, 1<<63 - 1}, api.OK}, {[]uint64{1, 1 << 63, 1<<63 - 2}, api.OK},
		{[]uint64{top, 1}, api.ErrOverflow}, {[]uint64{1, top}, api.ErrOverflow}, {[]uint64{1 << 63, 1 << 63}, api.ErrOverflow}, {[]uint64{1 << 63, 0, 1 << 63}, api.ErrOverflow}, {[]uint64{1 << 63, 1 << 63, 5}, api.ErrOverflow}, {[]uint64{1, 1 << 63, 1<<63 - 1}, api.ErrOverflow}, {[]uint64{top, top}, api.ErrOverflow}, {[]uint64{top, top, 2}, api.ErrOverflow},
	} {
		l := paid(x.balances...)
		var want []api.Account
		if x.e == api.OK {
			want = l
		}
		for _, order := range orders(len(l)) {
			m := make([]api.Account, len(l))
			for i, k := range order {
				m[i] = l[k]
			}
			checkGenesis(t, m, want, x.e)
		}
	}
}

// P11.2: pairs of errors.
func TestGenesisFirstFault(t *testing.T) {
	for _, x := range []struct {
		names []string
		e     api.Errno
	}{
		{[]string{"a", "?", "a"}, api.ErrName}, {[]string{"?", "a", "a"}, api.ErrName}, {[]string{"a", "a", "?"}, api.ErrDuplicate}, {[]string{"a", "b", "a", "?"}, api.ErrDuplicate}, {[]string{"a", "b", "?", "a"}, api.ErrName}, {[]string{"b", "a", "b", ""}, api.ErrDuplicate}, {[]string{"b", "a", "", "b"}, api.ErrName},
		{[]string{"?", "a", "?"}, api.ErrName}, {[]string{"a", "?", "?"}, api.ErrName}, {[]string{"a", "b", "b", "a"}, api.ErrDuplicate}, {[]string{"z", "y", "x", "z", "A"}, api.ErrDuplicate},
	} {
		l := named(x.names...)
		checkRefused(t, l, x.e)
		// A sum that is too large comes last, also where the accounts before the other error have it.
		l[0].Balance, l[1].Balance = top, 1
		checkRefused(t, l, x.e)
		l[0].Balance, l[len(l)-1].Balance = 1, top
		checkRefused(t, l, x.e)
		// More than MaxAccounts accounts come first.
		checkRefused(t, append(many(257), l...), api.ErrLimit)
		checkRefused(t, append(l, many(257)...), api.ErrLimit)
		checkRefused(t, append(many(256), l...), api.ErrLimit)
		checkRefused(t, append(many(256-len(l)), l...), x.e)
	}
}

// P11.3: each account of a ledger, and names between, before and behind all of them.
func TestGet(t *testing.T) {
	for _, n := range []int{0, 1, 2, 3, 7, 8, 100, 255, 256} {
		l := many(n)
		for i, a := range l {
			checkGet(t, l, a.Name, a, true)
			checkGet(t, l, between(i), api.Account{}, false)
			checkGet(t, l, a.Name+"-", api.Account{}, false)
			checkGet(t, l, a.Name[:4], api.Account{}, false)
			checkGet(t, l, strings.ToUpper(a.Name), api.Account{}, false)
		}
		for _, name := range append(badNames(), "-", "a", "n", "n0", "n00000", "n9999", "z", spare.Name) {
			checkGet(t, l, name, api.Account{}, false)
		}
	}
	all := named(goodNames()...)
	for i, a := range all {
		checkGet(t, all, a.Name, a, true)
		checkGet(t, slices.Delete(slices.Clone(all), i, i+1), a.Name, api.Account{}, false)
	}
	// The numbers of an account may be 0, and the ledger may be one without a total.
	checkGet(t, []api.Account{{Name: "a"}}, "a", api.Account{Name: "a"}, true)
	checkGet(t, []api.Account{{Name: "a", Balance: top, Sequence: top}, {Name: "b", Balance: top}}, "b", api.Account{Name: "b", Balance: top}, true)
}

// P11.3: lists that are not valid: not sorted, with names that occur twice, with strings that are no names.
func TestGetAny(t *testing.T) {
	names := []string{"", "a", "B", "aa", "c"}
	for _, l := range lists(names, 5) {
		accounts := named(l...)
		for _, name := range append(names, "b", "d") {
			want, ok := get(of(accounts...), name)
			checkGet(t, accounts, name, want, ok)
		}
	}
	// Many accounts with the same name, sorted and not.
	for _, n := range []int{2, 3, 8, 255, 257, 1000} {
		for first := range min(n, 20) {
			l := many(n)
			for i := range l[first:] {
				l[first+i].Name = "same"
			}
			checkGet(t, l, "same", l[first], true)
			slices.Reverse(l)
			checkGet(t, l, "same", l[0], true)
		}
	}
	r := rand.New(rand.NewSource(4))
	for _, n := range []int{10, 256, 600} {
		l := shuffled(r, append(many(n), many(n)...))
		for i := range l {
			l[i].Balance = uint64(i)
		}
		for i := range n {
			name := many(n)[i].Name
			want, ok := get(of(l...), name)
			checkGet(t, l, name, want, ok)
			checkGet(t, l, between(i), api.Account{}, false)
		}
	}
	for _, name := range badNames() {
		l := named("x", name, "y", name)
		checkGet(t, l, name, l[1], true)
	}
}

// P11.3, P11.5: a new account at every place, and every account replaced; nothing else changes.
func TestSet(t *testing.T) {
	for _, n := range []int{0, 1, 2, 3, 7, 8, 100, 254, 255, 256} {
		l := api.Ledger{Accounts: many(n), Collected: 77}
		for i := range n {
			for _, a := range []api.Account{{Name: l.Accounts[i].Name}, {Name: l.Accounts[i].Name, Balance: 5, Sequence: 1}, {Name: l.Accounts[i].Name, Balance: 1 << 63, Sequence: top}, l.Accounts[i]} {
				want := slices.Clone(l.Accounts)
				want[i] = a
				checkSet(t, l, a, api.Ledger{Accounts: want, Collected: 77}, api.OK)
			}
		}
		for i := range n + 1 {
			if n == 256 {
				break
			}
			for _, a := range []api.Account{{Name: between(i - 1)}, {Name: between(i - 1), Balance: 1 << 63, Sequence: top}} {
				if i == 0 {
					a.Name = "n"
				}
				checkSet(t, l, a, api.Ledger{Accounts: slices.Insert(slices.Clone(l.Accounts), i, a), Collected: 77}, api.OK)
			}
		}
	}
}

// P11.3: names of which one begins with another one.
func TestSetNames(t *testing.T) {
	all := named(goodNames()...)
	for i, a := range all {
		checkSet(t, of(slices.Delete(slices.Clone(all), i, i+1)...), a, of(all...), api.OK)
		checkSet(t, of(), a, of(a), api.OK)
		for j, b := range all {
			switch {
			case i < j:
				checkSet(t, of(a), b, of(a, b), api.OK)
			case i > j:
				checkSet(t, of(a), b, of(b, a), api.OK)
			}
		}
		other := api.Account{Name: a.Name, Balance: 1000, Sequence: 2000}
		checkSet(t, of(a), other, of(other), api.OK)
	}
}

// P11.3: names that are not valid, into every sort of ledger.
func TestSetBadName(t *testing.T) {
	for _, name := range badNames() {
		for _, l := range []api.Ledger{{}, {Collected: top}, of(many(1)...), of(many(7)...), of(many(255)...), of(many(256)...)} {
			for _, balance := range []uint64{0, 5, top} {
				checkUnset(t, l, api.Account{Name: name, Balance: balance}, api.ErrName)
			}
		}
	}
}

// P11.3: a full ledger.
func TestSetFull(t *testing.T) {
	l := of(many(256)...)
	for _, balance := range []uint64{0, 1, top} {
		for _, name := range []string{"-", "a", between(0), between(100), between(255), "z", "n0000-", strings.Repeat("z", 20)} {
			checkUnset(t, l, api.Account{Name: name, Balance: balance}, api.ErrLimit)
		}
	}
	almost := of(many(255)...)
	added := api.Account{Name: "z", Balance: 3, Sequence: 4}
	checkSet(t, almost, added, of(append(many(255), added)...), api.OK)
	// An account that is there can be replaced, within the total.
	rest, _ := total(l)
	for i, a := range l.Accounts {
		want := slices.Clone(l.Accounts)
		want[i].Balance = top - rest + a.Balance
		checkSet(t, l, want[i], of(want...), api.OK)
		a.Balance = want[i].Balance + 1
		checkUnset(t, l, a, api.ErrOverflow)
	}
}

// P11.3: ledgers that are not valid, with an account that is, and one that is not.
func TestSetIntoInvalid(t *testing.T) {
	check := func(l api.Ledger, e api.Errno) {
		t.Helper()
		for _, a := range []api.Account{{Name: "new"}, {Name: "new", Balance: top}, {Name: "?"}, {}, {Name: "n0000"}, {Name: "n0002", Balance: 5}, {Name: "a"}, {Name: "z", Balance: top}} {
			checkUnset(t, l, a, e)
		}
	}
	for _, f := range faults() {
		for i := f.needs; i < 6; i++ {
			l := many(6)
			l[i].Name = f.spoiled(l, i)
			check(of(l...), f.e)
			check(api.Ledger{Accounts: l, Collected: top}, f.e)
			l = many(256)
			l[i].Name = f.spoiled(l, i)
			check(of(l...), f.e)
			l[255-i].Name = ""
			if 255-i > i {
				check(of(l...), f.e)
			}
			l = many(257)
			l[i].Name = f.spoiled(l, i)
			check(of(l...), api.ErrLimit)
		}
	}
	check(of(many(257)...), api.ErrLimit)
	check(of(make([]api.Account, 300)...), api.ErrLimit)
	check(api.Ledger{Accounts: many(1), Collected: top}, api.ErrOverflow)
	check(api.Ledger{Accounts: many(256), Collected: top}, api.ErrOverflow)
	check(of(paid(1<<63, 1<<63)...), api.ErrOverflow)
	// The new account would repair the ledger, but it is not asked.
	for _, balances := range [][]uint64{{top, 1}, {1, top}, {1 << 63, 1 << 63}} {
		for i := range balances {
			checkUnset(t, of(paid(balances...)...), api.Account{Name: many(2)[i].Name}, api.ErrOverflow)
		}
	}
	checkUnset(t, of(named("a", "a")...), api.Account{Name: "a"}, api.ErrDuplicate)
	checkUnset(t, of(named("b", "a")...), api.Account{Name: "b"}, api.ErrArgument)
	checkUnset(t, of(named("A")...), api.Account{Name: "A"}, api.ErrName)
	checkUnset(t, of(many(257)...), many(257)[0], api.ErrLimit)
}

// P11.3: balances with which the total is 2^64 - 1, and one more.
func TestSetOverflow(t *testing.T) {
	for _, l := range []api.Ledger{{}, {Collected: 7}, {Collected: top - 100}, of(many(1)...), {Accounts: many(3), Collected: 9}, of(paid(1<<63, 3, 1<<62)...), {Accounts: paid(0, 0), Collected: 1 << 63}, {Accounts: many(255), Collected: 1}} {
		rest, _ := total(l)
		for i := range len(l.Accounts) + 1 {
			a := api.Account{Name: between(i), Balance: top - rest, Sequence: 8}
			want, _ := set(l, a)
			checkSet(t, l, a, want, api.OK)
			if rest > 0 {
				a.Balance++
				checkUnset(t, l, a, api.ErrOverflow)
				a.Balance = top
				checkUnset(t, l, a, api.ErrOverflow)
			}
		}
		// The balance that is replaced gives the room.
		for i, old := range l.Accounts {
			a := api.Account{Name: old.Name, Balance: top - rest + old.Balance, Sequence: 8}
			want := slices.Clone(l.Accounts)
			want[i] = a
			checkSet(t, l, a, api.Ledger{Accounts: want, Collected: l.Collected}, api.OK)
			if a.Balance < top {
				a.Balance++
				checkUnset(t, l, a, api.ErrOverflow)
				a.Balance = top
				checkUnset(t, l, a, api.ErrOverflow)
			}
		}
	}
	// No room at all: an account with the balance 0, or the room of the one that is replaced.
	for _, l := range []api.Ledger{{Collected: top}, of(paid(top)...), {Accounts: paid(1<<63, 1), Collected: 1<<63 - 2}} {
		checkValidate(t, l, api.OK)
		a := api.Account{Name: "z", Sequence: 5}
		checkSet(t, l, a, api.Ledger{Accounts: append(slices.Clone(l.Accounts), a), Collected: l.Collected}, api.OK)
		a.Balance = 1
		checkUnset(t, l, a, api.ErrOverflow)
		for _, old := range l.Accounts {
			checkSet(t, l, old, l, api.OK)
			old.Balance++ // from top to 0 in one of them
			want, e := set(l, old)
			checkSet(t, l, old, want, e)
		}
	}
}

// P11.3: many accounts, set one after the other, against a map.
func TestSetAgainAndAgain(t *testing.T) {
	for seed := range 6 {
		r := rand.New(rand.NewSource(int64(seed)))
		spread := []int{3, 10, 40, 200, 400, 2000}[seed]
		l := api.Ledger{Collected: uint64(seed)}
		model := map[string]api.Account{}
		for range 1500 {
			a := api.Account{Name: fmt.Sprint(r.Intn(spread)), Balance: uint64(r.Intn(1000)), Sequence: r.Uint64()}
			old, known := model[a.Name]
			checkGet(t, l.Accounts, a.Name, old, known)
			next, e := ledger.Set(l, a)
			if !known && len(model) == 256 {
				if e != api.ErrLimit || !same(next, api.Ledger{}) {
					t.Fatalf("Set of another name into a full ledger returns %d", e)
				}
				continue
			}
			model[a.Name] = a
			var want []api.Account
			for _, b := range model {
				want = append(want, b)
			}
			if e != api.OK || !same(next, api.Ledger{Accounts: sorted(want), Collected: uint64(seed)}) {
				t.Fatalf("Set(%s, %v) = %s, %d", brief(l.Accounts), a, brief(next.Accounts), e)
			}
			l = next
		}
		if want := min(spread, 256); len(l.Accounts) < want*9/10 {
			t.Errorf("%d accounts; want about %d", len(l.Accounts), want)
		}
		// The same accounts at once, in another order.
		checkGenesis(t, shuffled(r, l.Accounts), l.Accounts, api.OK)
	}
}

// P11.4: leaves written by hand.
func TestDigest(t *testing.T) {
	checkDigest(t, api.Ledger{}, []byte{32, 0})
	checkDigest(t, api.Ledger{Accounts: []api.Account{}, Collected: 1}, []byte{32, 1})
	checkDigest(t, api.Ledger{Collected: 300}, []byte{32, 172, 2})
	checkDigest(t, api.Ledger{Collected: top}, []byte{32, 255, 255, 255, 255, 255, 255, 255, 255, 255, 1})
	ann, bob := api.Account{Name: "ann", Balance: 7, Sequence: 0}, api.Account{Name: "bob", Balance: 5, Sequence: 2}
	annLeaf, bobLeaf := []byte{10, 3, 'a', 'n', 'n', 16, 7, 24, 0}, []byte{10, 3, 'b', 'o', 'b', 16, 5, 24, 2}
	checkDigest(t, of(ann), annLeaf, []byte{32, 0})
	checkDigest(t, of(bob), bobLeaf, []byte{32, 0})
	checkDigest(t, of(ann, bob), annLeaf, bobLeaf, []byte{32, 0})
	checkDigest(t, api.Ledger{Accounts: []api.Account{ann, bob}, Collected: 300}, annLeaf, bobLeaf, []byte{32, 172, 2})
	// Numbers of several bytes.
	checkDigest(t, of(api.Account{Name: "c", Balance: 127, Sequence: 128}), []byte{10, 1, 'c', 16, 127, 24, 128, 1}, []byte{32, 0})
	checkDigest(t, of(api.Account{Name: "c", Balance: 128, Sequence: 127}), []byte{10, 1, 'c', 16, 128, 1, 24, 127}, []byte{32, 0})
	checkDigest(t, of(api.Account{Name: "c", Balance: 16383, Sequence: 16384}), []byte{10, 1, 'c', 16, 255, 127, 24, 128, 128, 1}, []byte{32, 0})
	checkDigest(t, api.Ledger{Accounts: []api.Account{{Name: "-", Balance: top, Sequence: 1 << 63}}, Collected: 1 << 62},
		[]byte{10, 1, '-', 16, 255, 255, 255, 255, 255, 255, 255, 255, 255, 1, 24, 128, 128, 128, 128, 128, 128, 128, 128, 128, 1}, []byte{32, 128, 128, 128, 128, 128, 128, 128, 128, 64})
	checkDigest(t, of(api.Account{Name: strings.Repeat("z", 20), Balance: 1, Sequence: 1}), append(append([]byte{10, 20}, strings.Repeat("z", 20)...), 16, 1, 24, 1), []byte{32, 0})
	// The digest itself.
	one := sha256.Sum256([]byte{0, 10, 3, 'b', 'o', 'b', 16, 5, 24, 2})
	two := sha256.Sum256([]byte{0, 32, 0})
	if got := ledger.Digest(of(bob)); got != sha256.Sum256(slices.Concat([]byte{1}, one[:], two[:])) {
		t.Errorf("Digest of bob = %x", got)
	}
}

// P11.4: fields that are 0 or empty are there.
func TestDigestOfNothing(t *testing.T) {
	checkDigest(t, of(api.Account{}), []byte{10, 0, 16, 0, 24, 0}, []byte{32, 0})
	checkDigest(t, of(api.Account{Name: "a"}), []byte{10, 1, 'a', 16, 0, 24, 0}, []byte{32, 0})
	checkDigest(t, of(api.Account{Balance: 1}), []byte{10, 0, 16, 1, 24, 0}, []byte{32, 0})
	checkDigest(t, of(api.Account{Sequence: 1}), []byte{10, 0, 16, 0, 24, 1}, []byte{32, 0})
	checkDigest(t, of(api.Account{Name: "a", Balance: 9}), []byte{10, 1, 'a', 16, 9, 24, 0}, []byte{32, 0})
	checkDigest(t, of(api.Account{Name: "a", Sequence: 9}), []byte{10, 1, 'a', 16, 0, 24, 9}, []byte{32, 0})
	checkDigest(t, of(api.Account{Balance: 8, Sequence: 9}), []byte{10, 0, 16, 8, 24, 9}, []byte{32, 0})
	checkDigest(t, api.Ledger{Accounts: make([]api.Account, 3), Collected: 6}, []byte{10, 0, 16, 0, 24, 0}, []byte{10, 0, 16, 0, 24, 0}, []byte{10, 0, 16, 0, 24, 0}, []byte{32, 6})
}

// P11.4: lists that are not valid keep their order and all of their accounts.
func TestDigestOfInvalid(t *testing.T) {
	a, b := []byte{10, 1, 'a', 16, 1, 24, 2}, []byte{10, 1, 'b', 16, 3, 24, 4}
	x, y := api.Account{Name: "a", Balance: 1, Sequence: 2}, api.Account{Name: "b", Balance: 3, Sequence: 4}
	end := []byte{32, 0}
	checkDigest(t, of(y, x), b, a, end)
	checkDigest(t, of(x, x), a, a, end)
	checkDigest(t, of(y, x, y), b, a, b, end)
	checkDigest(t, of(x, y, y, x), a, b, b, a, end)
	checkDigest(t, of(api.Account{Name: "A\xff é", Balance: 5}), []byte{10, 5, 'A', 255, ' ', 195, 169, 16, 5, 24, 0}, end)
	for _, n := range []int{21, 127, 128, 129, 300, 20000} {
		name := strings.Repeat("Q", n)
		leaf := append(append(binary.AppendUvarint([]byte{10}, uint64(n)), name...), 16, 1, 24, 2)
		checkDigest(t, of(api.Account{Name: name, Balance: 1, Sequence: 2}), leaf, end)
	}
	// No total, and too many accounts.
	full := []byte{255, 255, 255, 255, 255, 255, 255, 255, 255, 1}
	checkDigest(t, api.Ledger{Accounts: []api.Account{{Name: "a", Balance: top}, {Name: "b", Balance: top}}, Collected: top},
		slices.Concat([]byte{10, 1, 'a', 16}, full, []byte{24, 0}), slices.Concat([]byte{10, 1, 'b', 16}, full, []byte{24, 0}), slices.Concat([]byte{32}, full))
	for _, n := range []int{257, 258, 511, 512, 1000} {
		if l := of(many(n)...); ledger.Digest(l) != digest(l) {
			t.Errorf("Digest of %d accounts is wrong", n)
		}
	}
}

// P11.4: ledgers of every size, and numbers of every length.
func TestDigestByDefinition(t *testing.T) {
	for n := range 70 {
		checkDefined(t, api.Ledger{Accounts: many(n), Collected: uint64(n)})
	}
	for _, n := range []int{127, 128, 129, 254, 255, 256, 257} {
		checkDefined(t, of(many(n)...))
	}
	for bit := range 64 {
		for _, n := range []uint64{1<<bit - 1, 1 << bit, 1<<bit + 1} {
			checkDefined(t, of(api.Account{Name: "a", Balance: n}))
			checkDefined(t, of(api.Account{Name: "a", Sequence: n}))
			checkDefined(t, of(api.Account{Name: "a", Balance: n, Sequence: n}, api.Account{Name: "b", Sequence: 3}))
			checkDefined(t, api.Ledger{Collected: n})
			checkDefined(t, api.Ledger{Accounts: many(2), Collected: n})
		}
	}
	for _, name := range append(badNames(), goodNames()...) {
		checkDefined(t, of(named(name)...))
		checkDefined(t, of(named("m", name, "m")...))
	}
}

// P11.4: ledgers that differ have different digests.
func TestDigestsDiffer(t *testing.T) {
	seen := map[api.Key]string{}
	add := func(l api.Ledger) {
		t.Helper()
		text := fmt.Sprint(l)
		k := ledger.Digest(l)
		if other, ok := seen[k]; ok && other != text {
			t.Errorf("%s and %s have the same digest", other, text)
		}
		seen[k] = text
	}
	accounts := []api.Account{{}, {Name: "a"}, {Name: "b"}, {Name: "a", Balance: 1}, {Name: "a", Sequence: 1}, {Balance: 1}, {Sequence: 1}, {Name: "a", Balance: 1, Sequence: 1}}
	for _, l := range lists(accounts, 3) {
		for collected := range uint64(3) {
			add(api.Ledger{Accounts: l, Collected: collected})
		}
	}
	if want := 3 * (1 + 8 + 64 + 512); len(seen) != want {
		t.Errorf("%d digests; want %d", len(seen), want)
	}
}

// All functions, for all short lists of some accounts.
func TestByDefinition(t *testing.T) {
	var accounts []api.Account
	for i, name := range []string{"", "a", "aa", "b"} {
		for _, balance := range []uint64{0, 1 << 63} {
			accounts = append(accounts, api.Account{Name: name, Balance: balance, Sequence: uint64(i)})
		}
	}
	for _, l := range lists(accounts, 4) {
		for _, collected := range []uint64{0, 1<<63 - 1, 1 << 63} {
			x := api.Ledger{Accounts: l, Collected: collected}
			if collected == 0 {
				checkDefined(t, x)
			}
			checkValidate(t, x, judge(x))
			for _, a := range accounts {
				a.Sequence = 9
				want, e := set(x, a)
				checkSet(t, x, a, want, e)
			}
			checkUnset(t, x, api.Account{Name: "A"}, first(judge(x), api.ErrName))
		}
	}
}

// R3: the same arguments give the same results again, whatever was called in between.
func TestAgain(t *testing.T) {
	l := of(named("a", "c", "e")...)
	for range 3 {
		checkSet(t, l, api.Account{Name: "b"}, of(l.Accounts[0], api.Account{Name: "b"}, l.Accounts[1], l.Accounts[2]), api.OK)
		checkUnset(t, l, api.Account{Name: "?"}, api.ErrName)
		checkRefused(t, named("a", "a"), api.ErrDuplicate)
		checkGenesis(t, []api.Account{l.Accounts[2], l.Accounts[0], l.Accounts[1]}, l.Accounts, api.OK)
		checkValidate(t, of(named("b", "a")...), api.ErrArgument)
		checkTotal(t, l, 33, true)
		checkGet(t, l.Accounts, "c", l.Accounts[1], true)
		checkGet(t, l.Accounts, "b", api.Account{}, false)
	}
}

// R2: results share memory with no argument and with no other result, also where nothing is changed.
func TestResultsApart(t *testing.T) {
	accounts := named("a", "b", "c")
	x, _ := ledger.Genesis(accounts)
	y, _ := ledger.Genesis(accounts)
	z, _ := ledger.Set(x, accounts[1])
	w, _ := ledger.Set(x, accounts[1])
	v, _ := ledger.Set(x, api.Account{Name: "d"})
	u, _ := ledger.Set(x, api.Account{Name: "d"})
	results := []api.Ledger{x, y, z, w, v, u}
	for i, l := range results {
		var before [][]api.Account
		for _, m := range results {
			before = append(before, slices.Clone(m.Accounts))
		}
		overwrite(l.Accounts)
		for j, m := range results {
			if j != i && !slices.Equal(m.Accounts, before[j]) {
				t.Errorf("the results %d and %d share memory", i, j)
			}
		}
	}
	if !slices.Equal(accounts, named("a", "b", "c")) {
		t.Errorf("a result shares memory with the argument of Genesis")
	}
}
