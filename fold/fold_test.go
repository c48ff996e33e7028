package fold_test

import (
	"crypto/sha256"
	"encoding/binary"
	"encoding/hex"
	"fmt"
	"math"
	"math/rand"
	"slices"
	"strings"
	"testing"

	"mempool/api"
	"mempool/apply"
	"mempool/fold"
	"mempool/ledger"
)

const top = math.MaxUint64

// of returns the ledger with these accounts, and nothing collected.
func of(accounts ...api.Account) api.Ledger {
	return api.Ledger{Accounts: accounts}
}

// account returns an account.
func account(name string, balance, sequence uint64) api.Account {
	return api.Account{Name: name, Balance: balance, Sequence: sequence}
}

// three returns the ledger of most tests.
func three() api.Ledger {
	return api.Ledger{Accounts: []api.Account{account("ann", 100, 0), account("bob", 200, 7), account("cid", 0, 2)}, Collected: 3}
}

// many returns n accounts in order.
func many(n int) []api.Account {
	var l []api.Account
	for i := range n {
		l = append(l, account(fmt.Sprintf("n%04d", i), uint64(100000+i), 0))
	}
	return l
}

// to returns a transfer.
func to(name string, amount uint64) api.Transfer {
	return api.Transfer{To: name, Amount: amount}
}

// pay returns a transaction with much gas and these transfers.
func pay(from string, sequence, fee uint64, transfers ...api.Transfer) api.Tx {
	return api.Tx{Sender: from, Sequence: sequence, Gas: 500, Fee: fee, Transfers: transfers}
}

// text appends a field with this tag and text, unless the text is empty.
func text(b []byte, tag byte, s string) []byte {
	if s == "" {
		return b
	}
	return append(binary.AppendUvarint(append(b, tag), uint64(len(s))), s...)
}

// number appends a field with this tag and value, unless the value is 0.
func number(b []byte, tag byte, n uint64) []byte {
	if n == 0 {
		return b
	}
	return binary.AppendUvarint(append(b, tag), n)
}

// encoding says what chapter 10 says of the encoding of any transaction, valid or not.
func encoding(t api.Tx) []byte {
	b := number(number(number(text(nil, 10, t.Sender), 16, t.Sequence), 24, t.Gas), 32, t.Fee)
	b = text(b, 42, t.Memo)
	for _, x := range t.Transfers {
		inner := number(text(nil, 10, x.To), 16, x.Amount)
		b = append(binary.AppendUvarint(append(b, 50), uint64(len(inner))), inner...)
	}
	return b
}

// step is a transaction in a list, with the result that it has at its place.
type step struct {
	raw []byte
	r   api.Result
}

// done returns the step of a transaction that is carried out. 1000 times its fee must not be too large.
func done(x api.Tx) step {
	return refused(x, api.OK)
}

// refused returns the step of a transaction with this Code.
func refused(x api.Tx, e api.Errno) step {
	return step{encoding(x), api.Result{Code: e, Sender: x.Sender, Sequence: x.Sequence, Gas: x.Gas, Priority: 1000 * x.Fee / x.Gas}}
}

// unread returns the step of bytes that are no transaction.
func unread(raw []byte, e api.Errno) step {
	return step{raw, api.Result{Code: e}}
}

// apart returns the bytes of the steps, and their results.
func apart(steps []step) (raws [][]byte, results []api.Result) {
	for _, s := range steps {
		raws, results = append(raws, s.raw), append(results, s.r)
	}
	return raws, results
}

// same reports whether a and b are equal.
func same(a, b api.Ledger) bool {
	return slices.Equal(a.Accounts, b.Accounts) && a.Collected == b.Collected
}

// brief returns the beginning of a ledger, for reports.
func brief(l api.Ledger) string {
	return fmt.Sprint(len(l.Accounts), " accounts ", l.Accounts[:min(len(l.Accounts), 8)], " and ", l.Collected)
}

// few returns the beginning of a list of results, for reports.
func few(l []api.Result) string {
	return fmt.Sprint(len(l), " results ", l[:min(len(l), 8)])
}

// guarded returns a copy of l with spare capacity, and a function that reports whether both are still what they were.
func guarded[T comparable](l []T, spare T) (copied []T, kept func() bool) {
	all := append(slices.Clone(l), spare, spare, spare)
	before := slices.Clone(all)
	return all[:len(l)], func() bool { return slices.Equal(all, before) }
}

// guardedList returns a copy of raws with spare capacity, also in its elements, and a function that reports whether all of it is still what it was.
func guardedList(raws [][]byte) (copied [][]byte, kept func() bool) {
	// The spare capacity would pass for more transactions, and for more of each.
	before := append(slices.Clone(raws), encoding(pay("ann", 0, 1, to("bob", 1))), nil)
	var all [][]byte
	var checks []func() bool
	for _, raw := range before {
		b, kept := guarded(raw, '2')
		all, checks = append(all, b), append(checks, kept)
	}
	return all[:len(raws)], func() bool {
		return slices.EqualFunc(all, before, slices.Equal) && !slices.ContainsFunc(checks, func(kept func() bool) bool { return !kept() })
	}
}

// fill sets all the memory of l to x, and returns a copy of what was there.
func fill[T any](l []T, x T) []T {
	copied := slices.Clone(l)
	l = l[:cap(l)]
	for i := range l {
		l[i] = x
	}
	return copied
}

// checkAll checks that All returns want and results, in memory of their own.
func checkAll(t *testing.T, l api.Ledger, price uint64, raws [][]byte, want api.Ledger, results []api.Result) {
	t.Helper()
	accounts, kept := guarded(l.Accounts, account("zzz-spare", 1, 1))
	list, keptList := guardedList(raws)
	got, is := fold.All(api.Ledger{Accounts: accounts, Collected: l.Collected}, price, list)
	got.Accounts, is = fill(got.Accounts, account("overwritten", 99, 99)), fill(is, api.Result{Code: 99})
	if !same(got, want) || !slices.Equal(is, results) {
		t.Errorf("All(%s, %d, %x) = %s, %s; want %s, %s", brief(l), price, raws[:min(len(raws), 9)], brief(got), few(is), brief(want), few(results))
	}
	if !kept() || !keptList() {
		t.Errorf("All(%s, %d, %x) has changed an argument, or shares its memory", brief(l), price, raws[:min(len(raws), 9)])
	}
}

// checkStrict checks that Strict returns want, at and e, in memory of its own.
func checkStrict(t *testing.T, l api.Ledger, price uint64, raws [][]byte, want api.Ledger, at int, e api.Errno) {
	t.Helper()
	accounts, kept := guarded(l.Accounts, account("zzz-spare", 1, 1))
	list, keptList := guardedList(raws)
	got, i, code := fold.Strict(api.Ledger{Accounts: accounts, Collected: l.Collected}, price, list)
	got.Accounts = fill(got.Accounts, account("overwritten", 99, 99))
	if !same(got, want) || i != at || code != e {
		t.Errorf("Strict(%s, %d, %x) = %s, %d, %d; want %s, %d, %d", brief(l), price, raws[:min(len(raws), 9)], brief(got), i, code, brief(want), at, e)
	}
	if !kept() || !keptList() {
		t.Errorf("Strict(%s, %d, %x) has changed an argument, or shares its memory", brief(l), price, raws[:min(len(raws), 9)])
	}
}

// checkBoth checks that All returns want and results, and Strict what follows from them.
func checkBoth(t *testing.T, l api.Ledger, price uint64, raws [][]byte, want api.Ledger, results []api.Result) {
	t.Helper()
	checkAll(t, l, price, raws, want, results)
	for i, r := range results {
		if r.Code != api.OK {
			checkStrict(t, l, price, raws, api.Ledger{}, i, r.Code)
			return
		}
	}
	checkStrict(t, l, price, raws, want, 0, api.OK)
}

// checkCuts checks that raws, cut at any place, gives the same: the parts are carried out one after the other.
func checkCuts(t *testing.T, l api.Ledger, price uint64, raws [][]byte) {
	t.Helper()
	all, results := fold.All(l, price, raws)
	last, at, e := fold.Strict(l, price, raws)
	for i := range len(raws) + 1 {
		m, first := fold.All(l, price, raws[:i])
		n, second := fold.All(m, price, raws[i:])
		if !same(n, all) || !slices.Equal(slices.Concat(first, second), results) {
			t.Errorf("All(%s, %d, %x), cut at %d, returns %s, %s, %s; want %s, %s", brief(l), price, raws[:min(len(raws), 9)], i, brief(n), few(first), few(second), brief(all), few(results))
		}
		m, j, code := fold.Strict(l, price, raws[:i])
		if code == api.OK {
			m, j, code = fold.Strict(m, price, raws[i:])
			if code != api.OK {
				j += i
			}
		}
		if !same(m, last) || j != at || code != e {
			t.Errorf("Strict(%s, %d, %x), cut at %d, returns %s, %d, %d; want %s, %d, %d", brief(l), price, raws[:min(len(raws), 9)], i, brief(m), j, code, brief(last), at, e)
		}
	}
}

// checkSteps checks All and Strict of the steps, the last ledger of which is want, and their cuts.
func checkSteps(t *testing.T, l api.Ledger, price uint64, want api.Ledger, steps ...step) {
	t.Helper()
	raws, results := apart(steps)
	checkBoth(t, l, price, raws, want, results)
	checkCuts(t, l, price, raws)
}

// checkDefined checks that All and Strict return what apply.Tx of one transaction after the other gives, and returns this.
func checkDefined(t *testing.T, l api.Ledger, price uint64, raws [][]byte) (api.Ledger, []api.Result) {
	t.Helper()
	next := l
	results := make([]api.Result, len(raws))
	for i, raw := range raws {
		next, results[i] = apply.Tx(next, price, raw)
	}
	checkBoth(t, l, price, raws, next, results)
	return next, results
}

// The examples of the chapter.
func TestExamples(t *testing.T) {
	l := three()
	if next, results := fold.All(l, 1, nil); !same(next, three()) || len(results) != 0 {
		t.Errorf("All of no transactions = %s, %v", brief(next), results)
	}
	raw := encoding(pay("ann", 0, 10, to("bob", 5)))
	if next, at, e := fold.Strict(l, 0, [][]byte{raw, raw}); !same(next, api.Ledger{}) || at != 1 || e != api.ErrSequence {
		t.Errorf("Strict of the same transaction twice = %s, %d, %d", brief(next), at, e)
	}
	k := fold.Digest(nil)
	if s := hex.EncodeToString(k[:]); s != "e3b0c44298fc1c149afbf4c8996fb92427ae41e4649b934ca495991b7852b855" {
		t.Errorf("Digest of no results = %s", s)
	}
}

// P14.1, P14.2: no transactions give the ledger itself, valid or not.
func TestNone(t *testing.T) {
	ledgers := append(invalid(), api.Ledger{}, api.Ledger{Accounts: []api.Account{}}, api.Ledger{Collected: top}, of(account("a", 1, 0)), three(), api.Ledger{Accounts: many(256), Collected: 5})
	for _, l := range ledgers {
		for _, price := range []uint64{0, 1, top} {
			checkBoth(t, l, price, nil, l, nil)
			checkBoth(t, l, price, [][]byte{}, l, nil)
			checkCuts(t, l, price, nil)
		}
	}
}

// P14.1, P14.2: one transaction that is carried out, or not.
func TestOne(t *testing.T) {
	l := three()
	x := pay("ann", 0, 10, to("bob", 5))
	want := api.Ledger{Accounts: []api.Account{account("ann", 85, 1), account("bob", 205, 7), account("cid", 0, 2)}, Collected: 13}
	checkSteps(t, l, 0, want, done(x))
	checkSteps(t, l, 1, l, refused(x, api.ErrFee))
	checkSteps(t, want, 0, want, refused(x, api.ErrSequence))
	checkSteps(t, l, 0, l, refused(pay("zoe", 0, 10, to("bob", 5)), api.ErrSender))
	checkSteps(t, l, 0, l, refused(pay("ann", 0, 96, to("bob", 5)), api.ErrFunds))
	checkSteps(t, l, 0, l, unread(nil, api.ErrName))
	checkSteps(t, l, 0, l, unread([]byte{1}, api.ErrEncoding))
	checkSteps(t, l, 0, l, unread(make([]byte, 4097), api.ErrLimit))
	checkSteps(t, api.Ledger{}, 0, api.Ledger{}, refused(x, api.ErrSender))
}

// P14.1, P14.2, P14.4: lists, written out with the ledgers behind them.
func TestWrittenOut(t *testing.T) {
	a := pay("ann", 0, 10, to("bob", 5))
	b := pay("ann", 1, 20, to("cid", 6))
	c := pay("bob", 7, 1, to("ann", 30))
	d := pay("cid", 2, 2, to("zoe", 3))
	z := pay("zoe", 0, 0, to("ann", 1))
	behindA := api.Ledger{Accounts: []api.Account{account("ann", 85, 1), account("bob", 205, 7), account("cid", 0, 2)}, Collected: 13}
	behindAB := api.Ledger{Accounts: []api.Account{account("ann", 59, 2), account("bob", 205, 7), account("cid", 6, 2)}, Collected: 33}
	behindABC := api.Ledger{Accounts: []api.Account{account("ann", 89, 2), account("bob", 174, 8), account("cid", 6, 2)}, Collected: 34}
	behindABD := api.Ledger{Accounts: []api.Account{account("ann", 59, 2), account("bob", 205, 7), account("cid", 1, 3), account("zoe", 3, 0)}, Collected: 35}
	behindABDZ := api.Ledger{Accounts: []api.Account{account("ann", 60, 2), account("bob", 205, 7), account("cid", 1, 3), account("zoe", 2, 1)}, Collected: 35}
	tag, noName, huge := unread([]byte{1}, api.ErrEncoding), unread(nil, api.ErrName), unread(make([]byte, 5000), api.ErrLimit)
	for _, x := range []struct {
		want  api.Ledger
		steps []step
	}{
		// None fails.
		{behindA, []step{done(a)}},
		{behindAB, []step{done(a), done(b)}},
		{behindABC, []step{done(a), done(b), done(c)}},
		{behindABC, []step{done(a), done(c), done(b)}},
		{behindABC, []step{done(c), done(a), done(b)}},
		{behindABD, []step{done(a), done(b), done(d)}},
		{behindABDZ, []step{done(a), done(b), done(d), done(z)}},
		// One fails, at the first, a middle and the last place.
		{behindABC, []step{noName, done(a), done(b), done(c)}},
		{behindABC, []step{done(a), tag, done(b), done(c)}},
		{behindABC, []step{done(a), done(b), huge, done(c)}},
		{behindABC, []step{done(a), done(b), done(c), tag}},
		{behindAB, []step{refused(b, api.ErrSequence), done(a), done(b)}},
		{behindAB, []step{done(a), refused(a, api.ErrSequence), done(b)}},
		{behindAB, []step{done(a), done(b), refused(b, api.ErrSequence)}},
		{behindABD, []step{refused(d, api.ErrFunds), done(a), done(b), done(d)}},
		{behindABD, []step{done(a), refused(d, api.ErrFunds), done(b), done(d)}},
		{behindABDZ, []step{done(a), done(b), refused(z, api.ErrSender), done(d), done(z)}},
		// Several fail.
		{behindA, []step{refused(b, api.ErrSequence), done(a)}},
		{behindA, []step{refused(b, api.ErrSequence), refused(d, api.ErrFunds), refused(z, api.ErrSender), done(a), refused(d, api.ErrFunds), tag}},
		{behindABC, []step{done(a), tag, done(b), noName, done(c)}},
		{behindABDZ, []step{refused(z, api.ErrSender), done(a), refused(a, api.ErrSequence), done(b), huge, done(d), noName, done(z), refused(z, api.ErrSequence)}},
		{three(), []step{refused(z, api.ErrSender), refused(d, api.ErrFunds), refused(b, api.ErrSequence)}},
		{three(), []step{tag, noName, huge, tag}},
		{three(), []step{refused(d, api.ErrFunds), refused(d, api.ErrFunds), refused(d, api.ErrFunds)}},
	} {
		checkSteps(t, three(), 0, x.want, x.steps...)
	}
}

// P14.1, P14.2: money goes on from hand to hand, and comes back.
func TestHandToHand(t *testing.T) {
	names := []string{"a", "b", "c", "d", "e"}
	l := of(account("a", 100, 0))
	var steps []step
	for i := range uint64(20) {
		steps = append(steps, done(pay(names[i%5], i/5, 1, to(names[(i+1)%5], 99-i))))
	}
	var want []api.Account
	for _, name := range names {
		want = append(want, account(name, 0, 4))
	}
	want[0].Balance = 80
	checkSteps(t, l, 0, api.Ledger{Accounts: want, Collected: 20}, steps...)
	// Without the first one, nothing can be paid.
	for i, s := range steps {
		s.r.Code = api.ErrSender
		if s.r.Sender == "a" {
			s.r.Code = api.ErrSequence
		}
		steps[i] = s
	}
	checkSteps(t, l, 0, l, steps[1:]...)
}

// P14.1, P14.2: the price holds for every transaction of the list.
func TestPrice(t *testing.T) {
	l := of(account("ann", 5000, 0), account("bob", 5000, 0), account("cid", 5000, 0))
	for _, order := range [][]uint64{{1, 2, 3}, {3, 2, 1}, {2, 1, 3}, {2, 3, 1}, {3, 1, 2}, {1, 3, 2}} {
		for _, price := range []uint64{0, 1, 2, 3, 4, top / 500} {
			want := of(slices.Clone(l.Accounts)...)
			var steps []step
			for i, n := range order {
				x := pay(l.Accounts[i].Name, 0, 500*n, to(l.Accounts[i].Name, 1))
				if n < price {
					steps = append(steps, refused(x, api.ErrFee))
					continue
				}
				steps = append(steps, done(x))
				want.Accounts[i].Balance -= x.Fee
				want.Accounts[i].Sequence++
				want.Collected += x.Fee
			}
			checkSteps(t, l, price, want, steps...)
		}
	}
	x := pay("ann", 0, 500, to("bob", 1))
	checkSteps(t, l, top, l, refused(x, api.ErrOverflow), refused(x, api.ErrOverflow))
}

// crowd returns a ledger of MaxAccounts accounts, the first of which are ann and bob, and the last one of which has the greatest sequence.
func crowd() api.Ledger {
	l := append([]api.Account{account("ann", 100000, 0), account("bob", 100000, 5)}, many(253)...)
	return api.Ledger{Accounts: append(l, account("old", 100000, top)), Collected: 77}
}

// failures returns steps that fail on crowd, at any place in a list, with the price 2. They have each Code other than OK that is possible on a valid ledger.
func failures() []step {
	good := pay("ann", 0, 1000, to("bob", 1))
	with := func(change func(x *api.Tx)) api.Tx {
		x := good
		x.Transfers = slices.Clone(x.Transfers)
		change(&x)
		return x
	}
	return []step{
		unread(append(encoding(good), make([]byte, 4096)...), api.ErrLimit),
		unread(append(encoding(good), 0), api.ErrEncoding),
		unread(encoding(good)[:9], api.ErrEncoding),
		unread(nil, api.ErrName),
		unread(encoding(with(func(x *api.Tx) { x.Gas = 0 })), api.ErrGas),
		unread(encoding(with(func(x *api.Tx) { x.Memo = "\xff" })), api.ErrMemo),
		unread(encoding(with(func(x *api.Tx) { x.Transfers = nil })), api.ErrLimit),
		unread(encoding(with(func(x *api.Tx) { x.Transfers[0].To = "B" })), api.ErrName),
		unread(encoding(with(func(x *api.Tx) { x.Transfers[0].Amount = 0 })), api.ErrAmount),
		refused(with(func(x *api.Tx) { x.Sender = "nobody" }), api.ErrSender),
		refused(with(func(x *api.Tx) { x.Sequence = 90 }), api.ErrSequence),
		refused(with(func(x *api.Tx) { x.Sender, x.Sequence = "old", top }), api.ErrOverflow),
		refused(with(func(x *api.Tx) { x.Sender, x.Gas, x.Fee = "n0007", 80, 161 }), api.ErrGas),
		refused(with(func(x *api.Tx) { x.Sender, x.Gas = "n0007", top }), api.ErrOverflow),
		refused(with(func(x *api.Tx) { x.Sender, x.Fee = "n0007", 999 }), api.ErrFee),
		refused(with(func(x *api.Tx) { x.Sender, x.Transfers[0].Amount = "n0007", top }), api.ErrOverflow),
		refused(with(func(x *api.Tx) { x.Sender, x.Transfers[0].Amount = "n0007", 200000 }), api.ErrFunds),
		refused(with(func(x *api.Tx) { x.Sender, x.Transfers[0].To = "n0007", "new" }), api.ErrLimit),
	}
}

// successes returns steps that are carried out on crowd, in this order, with the price 2, and the ledger behind them.
func successes() ([]step, api.Ledger) {
	want := crowd()
	want.Accounts[0] = account("ann", 100000-1000-5-1000-7+11, 2)
	want.Accounts[1] = account("bob", 100000+5-1001-11, 6)
	want.Accounts[2].Balance += 7
	want.Collected += 3001
	return []step{done(pay("ann", 0, 1000, to("bob", 5))), done(pay("ann", 1, 1000, to("n0000", 7))), done(pay("bob", 5, 1001, to("ann", 11)))}, want
}

// P14.1, P14.2: whatever fails, at any place, changes nothing, and what comes behind it is carried out.
func TestFailures(t *testing.T) {
	good, want := successes()
	checkSteps(t, crowd(), 2, want, good...)
	for _, f := range failures() {
		for i := range len(good) + 1 {
			checkSteps(t, crowd(), 2, want, slices.Insert(slices.Clone(good), i, f)...)
		}
		checkSteps(t, crowd(), 2, crowd(), f, f, f)
	}
}

// P14.2: the first of two that fail counts.
func TestFirstFailure(t *testing.T) {
	good, want := successes()
	for _, f := range failures() {
		for _, g := range failures() {
			for _, places := range [][2]int{{0, 0}, {0, 3}, {1, 2}, {3, 3}} {
				steps := slices.Insert(slices.Clone(good), places[1], g)
				raws, results := apart(slices.Insert(steps, places[0], f))
				checkAll(t, crowd(), 2, raws, want, results)
				checkStrict(t, crowd(), 2, raws, api.Ledger{}, places[0], f.r.Code)
			}
		}
	}
}

// invalid returns ledgers that are not valid.
func invalid() []api.Ledger {
	return []api.Ledger{
		of(account("", 50, 0)),
		of(account("b", 50, 0), account("B", 1, 0)),
		of(account("b", 50, 0), account(strings.Repeat("b", 21), 1, 0)),
		of(account("b", 50, 0), account("b", 50, 0)),
		of(account("b", 50, 0), account("a", 50, 0)),
		of(account("a", 1<<63, 0), account("b", 1<<63, 0)),
		{Accounts: []api.Account{account("b", 50, 0)}, Collected: top - 49},
		{Accounts: append([]api.Account{account("b", 50, 0)}, many(256)...)},
	}
}

// P14.1, P14.2: on a ledger that is not valid, every transaction is refused, and nothing is known about it.
func TestInvalidLedger(t *testing.T) {
	x := pay("b", 0, 5, to("b", 1))
	y := pay("a", 0, 5, to("b", 1))
	for _, l := range invalid() {
		for _, raws := range [][][]byte{{encoding(x)}, {nil}, {encoding(x), encoding(x)}, {encoding(y), nil, {1}, encoding(x), make([]byte, 5000)}} {
			results := slices.Repeat([]api.Result{{Code: api.ErrArgument}}, len(raws))
			for _, price := range []uint64{0, 1, top} {
				checkAll(t, l, price, raws, l, results)
				checkStrict(t, l, price, raws, api.Ledger{}, 0, api.ErrArgument)
				checkCuts(t, l, price, raws)
			}
		}
	}
}

// P14.1: the results have the ends of their fields.
func TestResultFields(t *testing.T) {
	l := of(account("ann", top-300, 0), account("bob", 300, top-1))
	for _, x := range []struct {
		tx api.Tx
		r  api.Result
	}{
		{api.Tx{Sender: "ann", Gas: top, Fee: 1, Transfers: []api.Transfer{to("ann", 1)}}, api.Result{Sender: "ann", Gas: top}},
		{api.Tx{Sender: "ann", Gas: 1000, Fee: top - 301, Transfers: []api.Transfer{to("bob", 1)}}, api.Result{Sender: "ann", Gas: 1000, Priority: top - 301}},
		{api.Tx{Sender: "ann", Gas: 200, Fee: top - 301, Transfers: []api.Transfer{to("bob", 1)}}, api.Result{Sender: "ann", Gas: 200, Priority: top}},
		{api.Tx{Sender: "ann", Gas: 200, Fee: top, Transfers: []api.Transfer{to("bob", 1)}}, api.Result{Code: api.ErrOverflow, Sender: "ann", Gas: 200, Priority: top}},
		{api.Tx{Sender: "bob", Sequence: top - 1, Gas: 200, Fee: 1, Transfers: []api.Transfer{to("ann", 1)}}, api.Result{Sender: "bob", Sequence: top - 1, Gas: 200, Priority: 5}},
		{api.Tx{Sender: "bob", Sequence: top, Gas: 200, Fee: 1, Transfers: []api.Transfer{to("ann", 1)}}, api.Result{Code: api.ErrSequence, Sender: "bob", Sequence: top, Gas: 200, Priority: 5}},
	} {
		raw := encoding(x.tx)
		_, results := checkDefined(t, l, 0, [][]byte{raw})
		if results[0] != x.r {
			t.Errorf("the result of %v is %v; want %v", x.tx, results[0], x.r)
		}
		again := x.r
		again.Code = api.ErrSequence
		if x.r.Code == api.ErrOverflow {
			again.Code = api.ErrOverflow
		}
		next, _ := apply.Tx(l, 0, raw)
		checkAll(t, l, 0, [][]byte{nil, raw, {1}, raw}, next, []api.Result{{Code: api.ErrName}, x.r, {Code: api.ErrEncoding}, again})
	}
}

// lists returns all lists of at most n of the elements.
func lists[T any](elements []T, n int) [][]T {
	all, last := [][]T{nil}, [][]T{nil}
	for range n {
		var next [][]T
		for _, l := range last {
			for _, x := range elements {
				next = append(next, append(slices.Clone(l), x))
			}
		}
		all, last = append(all, next...), next
	}
	return all
}

// P14.1, P14.2, P14.4: all lists of up to four of these transactions, cut at every place.
func TestAllLists(t *testing.T) {
	var raws [][]byte
	for _, x := range []api.Tx{pay("a", 0, 1, to("b", 2)), pay("a", 0, 0, to("a", 1)), pay("a", 1, 2, to("c", 3), to("b", 1)), pay("b", 4, 0, to("a", 2)), pay("c", 0, 1, to("d", 1))} {
		raws = append(raws, encoding(x))
	}
	raws = append(raws, []byte("junk"))
	whole := map[int]int{}
	for _, l := range []api.Ledger{of(account("a", 9, 0)), of(account("a", 9, 0), account("b", 0, 4)), {Accounts: []api.Account{account("a", 3, 0), account("b", 0, 4)}, Collected: 6}, of(account("a", 6, 1), account("b", 2, 4), account("d", 0, 0))} {
		for _, list := range lists(raws, 4) {
			next, results := checkDefined(t, l, 0, list)
			checkCuts(t, l, 0, list)
			before, _ := ledger.Total(l)
			if n, ok := ledger.Total(next); n != before || !ok {
				t.Errorf("%x makes the total %d of %s", list, n, brief(next))
			}
			if !slices.ContainsFunc(results, func(r api.Result) bool { return r.Code != api.OK }) {
				whole[len(list)]++
			}
		}
	}
	for n := range 5 {
		if whole[n] == 0 {
			t.Errorf("no list of %d transactions is carried out as a whole", n)
		}
	}
}

// P14.4: if Strict returns OK, All has the same ledger, and all Codes are OK; and if all Codes are OK, so does Strict.
func TestStrictAndAll(t *testing.T) {
	a, b, c := encoding(pay("a", 0, 1, to("b", 2))), encoding(pay("a", 1, 2, to("c", 3))), encoding(pay("b", 0, 0, to("a", 2)))
	whole, broken := 0, 0
	for _, l := range []api.Ledger{of(account("a", 8, 0)), of(account("a", 7, 0), account("b", 0, 0)), of(account("a", 3, 0), account("b", 1, 0)), {}} {
		for _, list := range lists([][]byte{a, b, c}, 5) {
			strict, at, e := fold.Strict(l, 0, list)
			all, results := fold.All(l, 0, list)
			codes := 0
			for _, r := range results {
				if r.Code == api.OK {
					codes++
				}
			}
			switch {
			case e == api.OK && (!same(strict, all) || at != 0 || codes != len(list)):
				t.Errorf("Strict(%s, 0, %x) = %s, %d, OK, but All returns %s, %v", brief(l), list, brief(strict), at, brief(all), results)
			case e != api.OK && (!same(strict, api.Ledger{}) || codes == len(list) || results[at].Code != e):
				t.Errorf("Strict(%s, 0, %x) = %s, %d, %d, but All returns %v", brief(l), list, brief(strict), at, e, results)
			}
			if e == api.OK {
				whole++
			} else {
				broken++
			}
		}
	}
	if whole < 10 || broken < 100 {
		t.Errorf("%d lists were carried out, and %d were not", whole, broken)
	}
}

// random returns the bytes of a transaction that may well be one that l carries out, or not one at all.
func random(r *rand.Rand, l api.Ledger) []byte {
	a := l.Accounts[r.Intn(len(l.Accounts))]
	x := pay(a.Name, a.Sequence, 500+uint64(r.Intn(30)))
	for range 1 + r.Intn(3) {
		x.Transfers = append(x.Transfers, to(fmt.Sprint("n", r.Intn(60)), 1+uint64(r.Intn(900))))
	}
	switch r.Intn(8) {
	case 0:
		x.Sequence += uint64(r.Intn(3))
	case 1:
		x.Fee = 499
	case 2:
		x.Transfers[0].Amount += a.Balance
	case 3:
		x.Sender = fmt.Sprint("n", r.Intn(60))
	case 4:
		return encoding(x)[:r.Intn(3)]
	}
	return encoding(x)
}

// P14.1, P14.2, P14.4: long lists, cut at every place.
func TestRandomLists(t *testing.T) {
	codes := map[api.Errno]int{}
	for seed := range 6 {
		r := rand.New(rand.NewSource(int64(seed)))
		l := of()
		for i := range 20 {
			l.Accounts = append(l.Accounts, account(fmt.Sprint("n", 10+i), 3000, uint64(i)))
		}
		var raws [][]byte
		next := l
		for range 80 {
			raws = append(raws, random(r, next))
			next, _ = apply.Tx(next, 1, raws[len(raws)-1])
		}
		_, results := checkDefined(t, l, 1, raws)
		checkCuts(t, l, 1, raws)
		var good [][]byte
		for i, x := range results {
			codes[x.Code]++
			if x.Code == api.OK {
				good = append(good, raws[i])
			}
		}
		// Without those that fail, none fails.
		raws, results = good, slices.DeleteFunc(results, func(r api.Result) bool { return r.Code != api.OK })
		checkBoth(t, l, 1, raws, next, results)
		checkCuts(t, l, 1, raws)
	}
	for _, e := range []api.Errno{api.OK, api.ErrName, api.ErrEncoding, api.ErrSender, api.ErrSequence, api.ErrFee, api.ErrFunds} {
		if codes[e] < 5 {
			t.Errorf("only %d transactions have the Code %d", codes[e], e)
		}
	}
}

// P14.1, P14.2: more transactions than a block has.
func TestManyTransactions(t *testing.T) {
	const n = 3000
	l := of(account("ann", n, 0), account("bob", 0, 0))
	var steps []step
	for i := range uint64(n) {
		steps = append(steps, done(pay("ann", i, 0, to("bob", 1))))
	}
	want := of(account("ann", 0, n), account("bob", n, 0))
	raws, results := apart(steps)
	checkBoth(t, l, 0, raws, want, results)
	raws, results = apart(append(steps, refused(pay("ann", n, 0, to("bob", 1)), api.ErrFunds), unread(nil, api.ErrName)))
	checkBoth(t, l, 0, raws, want, results)
	// In the other order, only the last one is carried out.
	slices.Reverse(steps)
	for i := range steps[:n-1] {
		steps[i].r.Code = api.ErrSequence
	}
	raws, results = apart(steps)
	checkBoth(t, l, 0, raws, of(account("ann", n-1, 1), account("bob", 1, 0)), results)
}

// R3: the same arguments give the same results again, whatever was called in between.
func TestAgain(t *testing.T) {
	good, want := successes()
	raws, results := apart(good)
	for range 3 {
		checkBoth(t, crowd(), 2, raws, want, results)
		checkDefined(t, crowd(), 2, [][]byte{raws[1], nil, raws[0]})
		checkDefined(t, invalid()[0], 2, raws)
		checkDefined(t, api.Ledger{}, 2, raws)
	}
}

// R2: results share memory with no argument and with no other result.
func TestResultsApart(t *testing.T) {
	good, bad := three(), invalid()[3]
	accounts, wrong := slices.Clone(good.Accounts), slices.Clone(bad.Accounts)
	a, z := encoding(pay("ann", 0, 1, to("bob", 2))), encoding(pay("zoe", 0, 1, to("bob", 2)))
	var ledgers [][]api.Account
	var results [][]api.Result
	for _, raws := range [][][]byte{nil, {a}, {z}, {a, z}, {z, a}, {z, z}, {nil}} {
		for _, l := range []api.Ledger{good, bad} {
			for range 2 {
				next, list := fold.All(l, 0, raws)
				last, _, _ := fold.Strict(l, 0, raws)
				ledgers, results = append(ledgers, next.Accounts, last.Accounts), append(results, list)
			}
		}
	}
	checkApart(t, ledgers, account("overwritten", 99, 99))
	checkApart(t, results, api.Result{Code: 99})
	if !slices.Equal(good.Accounts, accounts) || !slices.Equal(bad.Accounts, wrong) {
		t.Errorf("a result shares memory with an argument")
	}
}

// checkApart checks that no two of the lists share memory, by filling one after the other with x.
func checkApart[T comparable](t *testing.T, l [][]T, x T) {
	t.Helper()
	for i := range l {
		var before [][]T
		for _, m := range l {
			before = append(before, slices.Clone(m))
		}
		fill(l[i], x)
		for j := range l {
			if j != i && !slices.Equal(l[j], before[j]) {
				t.Errorf("the results %d and %d share memory", i, j)
			}
		}
	}
}

// leaf says what the chapter says of the leaf of a result.
func leaf(r api.Result) []byte {
	b := binary.AppendUvarint([]byte{8}, uint64(r.Code))
	return binary.AppendUvarint(append(b, 16), r.Gas)
}

// root says what chapter 6 says of the root of leaves.
func root(leaves [][]byte) api.Key {
	switch len(leaves) {
	case 0:
		return sha256.Sum256(nil)
	case 1:
		return sha256.Sum256(append([]byte{0}, leaves[0]...))
	}
	k := 1
	for 2*k < len(leaves) {
		k *= 2
	}
	x, y := root(leaves[:k]), root(leaves[k:])
	return sha256.Sum256(slices.Concat([]byte{1}, x[:], y[:]))
}

// checkDigest checks that Digest of l returns the root of the leaves.
func checkDigest(t *testing.T, l []api.Result, leaves [][]byte) {
	t.Helper()
	given, kept := guarded(l, api.Result{Code: 1, Gas: 1})
	if got, want := fold.Digest(given), root(leaves); got != want {
		t.Errorf("Digest(%s) = %x; want %x", few(l), got, want)
	}
	if !kept() {
		t.Errorf("Digest(%s) has changed its argument", few(l))
	}
}

// P14.3: results whose leaves are written out.
func TestLeaves(t *testing.T) {
	checkDigest(t, nil, nil)
	checkDigest(t, []api.Result{}, nil)
	codes := []struct {
		code api.Errno
		want []byte
	}{
		{0, []byte{8, 0}},
		{1, []byte{8, 1}},
		{api.ErrSequence, []byte{8, 14}},
		{api.ErrTurn, []byte{8, 36}},
		{127, []byte{8, 127}},
		{128, []byte{8, 128, 1}},
		{300, []byte{8, 172, 2}},
		{math.MaxInt64, []byte{8, 255, 255, 255, 255, 255, 255, 255, 255, 127}},
		{-1, []byte{8, 255, 255, 255, 255, 255, 255, 255, 255, 255, 1}},
		{-2, []byte{8, 254, 255, 255, 255, 255, 255, 255, 255, 255, 1}},
		{math.MinInt64, []byte{8, 128, 128, 128, 128, 128, 128, 128, 128, 128, 1}},
	}
	gas := []struct {
		gas  uint64
		want []byte
	}{
		{0, []byte{16, 0}},
		{1, []byte{16, 1}},
		{127, []byte{16, 127}},
		{128, []byte{16, 128, 1}},
		{500, []byte{16, 244, 3}},
		{1 << 32, []byte{16, 128, 128, 128, 128, 16}},
		{1<<63 - 1, []byte{16, 255, 255, 255, 255, 255, 255, 255, 255, 127}},
		{1 << 63, []byte{16, 128, 128, 128, 128, 128, 128, 128, 128, 128, 1}},
		{top - 1, []byte{16, 254, 255, 255, 255, 255, 255, 255, 255, 255, 1}},
		{top, []byte{16, 255, 255, 255, 255, 255, 255, 255, 255, 255, 1}},
	}
	for _, c := range codes {
		for _, g := range gas {
			r, b := api.Result{Code: c.code, Gas: g.gas}, slices.Concat(c.want, g.want)
			checkDigest(t, []api.Result{r}, [][]byte{b})
			checkDigest(t, []api.Result{r, {}}, [][]byte{b, {8, 0, 16, 0}})
			checkDigest(t, []api.Result{{Code: 5, Gas: 6}, r}, [][]byte{{8, 5, 16, 6}, b})
			checkDigest(t, []api.Result{{}, r, r}, [][]byte{{8, 0, 16, 0}, b, b})
		}
	}
}

// P14.3: digests that were computed elsewhere.
func TestDigests(t *testing.T) {
	for _, x := range []struct {
		l    []api.Result
		want string
	}{
		{[]api.Result{}, "e3b0c44298fc1c149afbf4c8996fb92427ae41e4649b934ca495991b7852b855"},
		{[]api.Result{{}}, "971c6db6c2bfe1527ee16d14f19676a50e63e6879f5115da6b9599f80182eda7"},
		{[]api.Result{{Gas: 200}}, "0fa6eb89694245fbac82362a3b67683ca81d9271e9ec874c5198eb512e250f08"},
		{[]api.Result{{Code: 14, Gas: 300}}, "8b7954ff75a21955833a4bf30a130e4cb5a3659572e2f1db743fc7450468584a"},
		{[]api.Result{{Code: 14, Gas: 300}, {}}, "59f760998c55a7c190ecd9c81a9dcae04865ab85668ffa4a2603f6609254439a"},
		{[]api.Result{{}, {Code: 14, Gas: 300}}, "03ac41f9766469db06e57bea602244e423cb53ce585ae2a3bf88ef560af0a7db"},
		{[]api.Result{{Gas: 500}, {Code: 16, Gas: 500}, {Code: 3}}, "5e096ec4365807bf083ac02b75f5bee47e60a6fc9ece8d394c080a49581073bb"},
		{[]api.Result{{Gas: top}}, "898f3fee699c2f947617694d8c386dbda397d021b5d6f317d58f847052052e0c"},
		{[]api.Result{{Gas: 1}, {Code: 1}, {Code: 2, Gas: 1}, {Code: 3, Gas: 1048576}, {Code: 36, Gas: 7}}, "3d4c272426595f437236a251893e6930e443fe0d9932317feb6e918ab2e9a898"},
	} {
		if k := fold.Digest(x.l); hex.EncodeToString(k[:]) != x.want {
			t.Errorf("Digest(%v) = %x; want %s", x.l, k, x.want)
		}
	}
}

// P14.3: lists of results of many lengths.
func TestDigestOfMany(t *testing.T) {
	var l []api.Result
	var leaves [][]byte
	for i := range 1100 {
		r := api.Result{Code: api.Errno(i % 37), Sender: fmt.Sprint("n", i), Sequence: uint64(i), Gas: uint64(i) << (i % 50), Priority: uint64(i)}
		l, leaves = append(l, r), append(leaves, leaf(r))
		if i < 70 || i > 505 && i < 520 || i%100 == 0 || i > 1020 && i < 1030 {
			checkDigest(t, l, leaves)
		}
	}
}

// P14.3: only Code and Gas count, and both do, at every place.
func TestWhatCounts(t *testing.T) {
	for n := 1; n <= 9; n++ {
		var l []api.Result
		for i := range n {
			l = append(l, api.Result{Code: api.Errno(i % 3), Sender: "ann", Sequence: uint64(i), Gas: uint64(100 * i), Priority: 8})
		}
		k := fold.Digest(l)
		digest := func(i int, change func(r *api.Result)) api.Key {
			m := slices.Clone(l)
			change(&m[i])
			return fold.Digest(m)
		}
		for i := range n {
			for _, same := range []api.Key{
				digest(i, func(r *api.Result) { r.Sender = "" }),
				digest(i, func(r *api.Result) { r.Sender = "bob" }),
				digest(i, func(r *api.Result) { r.Sequence++ }),
				digest(i, func(r *api.Result) { r.Sequence = top }),
				digest(i, func(r *api.Result) { r.Priority = 0 }),
				digest(i, func(r *api.Result) { r.Priority = top }),
				digest(i, func(r *api.Result) { r.Sender, r.Sequence, r.Priority = "", 0, 0 }),
			} {
				if same != k {
					t.Errorf("a Sender, Sequence or Priority at %d of %d results counts", i, n)
				}
			}
			for _, other := range []api.Key{
				digest(i, func(r *api.Result) { r.Code++ }),
				digest(i, func(r *api.Result) { r.Code += 1 << 40 }),
				digest(i, func(r *api.Result) { r.Gas++ }),
				digest(i, func(r *api.Result) { r.Gas ^= 1 << 63 }),
				digest(i, func(r *api.Result) { r.Code, r.Gas = 50, uint64(r.Code) }),
				fold.Digest(slices.Delete(slices.Clone(l), i, i+1)),
				fold.Digest(slices.Insert(slices.Clone(l), i, api.Result{})),
			} {
				if other == k {
					t.Errorf("a change at %d of %d results does not count", i, n)
				}
			}
		}
	}
	a, b := api.Result{Code: 1, Gas: 2}, api.Result{Code: 2, Gas: 1}
	if fold.Digest([]api.Result{a, b}) == fold.Digest([]api.Result{b, a}) || fold.Digest([]api.Result{a}) == fold.Digest([]api.Result{b}) {
		t.Errorf("the order of results, or of their fields, does not count")
	}
}

// P14.3: the digest of what All returns.
func TestDigestOfAll(t *testing.T) {
	good, _ := successes()
	for i, f := range failures() {
		raws, want := apart(slices.Insert(slices.Clone(good), i%4, f))
		_, results := fold.All(crowd(), 2, raws)
		var leaves [][]byte
		for _, r := range want {
			leaves = append(leaves, leaf(r))
		}
		checkDigest(t, results, leaves)
	}
}
