package app_test

import (
	"fmt"
	"math"
	"math/rand"
	"slices"
	"testing"

	"mempool/api"
	"mempool/app"
	"mempool/apply"
	"mempool/fold"
	"mempool/ledger"
	"mempool/tx"
)

const top = math.MaxUint64

// account returns an account.
func account(name string, balance, sequence uint64) api.Account {
	return api.Account{Name: name, Balance: balance, Sequence: sequence}
}

// of returns a ledger.
func of(collected uint64, accounts ...api.Account) api.Ledger {
	return api.Ledger{Accounts: accounts, Collected: collected}
}

// many returns n accounts in order.
func many(n int) []api.Account {
	var l []api.Account
	for i := range n {
		l = append(l, account(fmt.Sprintf("n%04d", i), uint64(1000+i), 0))
	}
	return l
}

// pay returns a transaction with the gas 200 and one transfer.
func pay(from string, sequence, fee uint64, to string, amount uint64) []byte {
	raw, e := tx.Encode(api.Tx{Sender: from, Sequence: sequence, Gas: 200, Fee: fee, Transfers: []api.Transfer{{To: to, Amount: amount}}})
	if e != api.OK {
		panic(e)
	}
	return raw
}

// result returns the result of pay with these arguments and this Code. 1000 times the fee must not be too large.
func result(e api.Errno, from string, sequence, fee uint64) api.Result {
	return api.Result{Code: e, Sender: from, Sequence: sequence, Gas: 200, Priority: 1000 * fee / 200}
}

// sameLedger reports whether a and b are equal.
func sameLedger(a, b api.Ledger) bool {
	return slices.Equal(a.Accounts, b.Accounts) && a.Collected == b.Collected
}

// same reports whether a and b are equal.
func same(a, b api.App) bool {
	return sameLedger(a.Committed, b.Committed) && sameLedger(a.Check, b.Check) && sameLedger(a.Next, b.Next) && a.Open == b.Open && a.Price == b.Price
}

// brief returns the beginnings of the ledgers of a, for reports.
func brief(a api.App) string {
	s := ""
	for _, l := range []api.Ledger{a.Committed, a.Check, a.Next} {
		s += fmt.Sprint(len(l.Accounts), l.Accounts[:min(len(l.Accounts), 4)], l.Collected, "; ")
	}
	return fmt.Sprint("{", s, "open ", a.Open, ", price ", a.Price, "}")
}

// few returns the beginning of a list of transactions, for reports.
func few(raws [][]byte) string {
	return fmt.Sprintf("%d transactions %x", len(raws), raws[:min(len(raws), 4)])
}

// copyOf returns a copy of a in memory of its own.
func copyOf(a api.App) api.App {
	a.Committed.Accounts = slices.Clone(a.Committed.Accounts)
	a.Check.Accounts = slices.Clone(a.Check.Accounts)
	a.Next.Accounts = slices.Clone(a.Next.Accounts)
	return a
}

// guarded returns a copy of l with spare capacity, and a function that reports whether both are still what they were.
func guarded[T comparable](l []T, spare T) (copied []T, kept func() bool) {
	all := append(slices.Clone(l), spare, spare, spare)
	before := slices.Clone(all)
	return all[:len(l)], func() bool { return slices.Equal(all, before) }
}

// guardedApp returns a copy of a with spare capacity, and a function that reports whether all of it is still what it was.
func guardedApp(a api.App) (copied api.App, kept func() bool) {
	spare := account("zzz-spare", 1, 1)
	var committed, check, next func() bool
	a.Committed.Accounts, committed = guarded(a.Committed.Accounts, spare)
	a.Check.Accounts, check = guarded(a.Check.Accounts, spare)
	a.Next.Accounts, next = guarded(a.Next.Accounts, spare)
	return a, func() bool { return committed() && check() && next() }
}

// guardedList returns a copy of raws with spare capacity, also in its elements, and a function that reports whether all of it is still what it was.
func guardedList(raws [][]byte) (copied [][]byte, kept func() bool) {
	// The spare capacity would pass for more transactions, and for more of each.
	before := append(slices.Clone(raws), pay("ann", 0, 200, "bob", 1), nil)
	var all [][]byte
	var checks []func() bool
	for _, raw := range before {
		b, kept := guarded(raw, '2')
		all, checks = append(all, b), append(checks, kept)
	}
	return all[:len(raws)], func() bool {
		return slices.EqualFunc(all, before, slices.Equal) && !slices.ContainsFunc(checks, func(kept func() bool) bool { return !kept() })
	}
}

// fill sets all the memory of l to x.
func fill[T any](l []T, x T) {
	l = l[:cap(l)]
	for i := range l {
		l[i] = x
	}
}

// checkApp checks that got is want, and that its ledgers share no memory: it overwrites one after the other.
func checkApp(t *testing.T, call string, got, want api.App) {
	t.Helper()
	if !same(got, want) {
		t.Errorf("%s = %s; want %s", call, brief(got), brief(want))
		return
	}
	for i, l := range []api.Ledger{got.Committed, got.Check, got.Next} {
		others := copyOf(got)
		fill(l.Accounts, account("overwritten", uint64(i), 99))
		for j, pair := range [][2]api.Ledger{{got.Committed, others.Committed}, {got.Check, others.Check}, {got.Next, others.Next}} {
			if j != i && !sameLedger(pair[0], pair[1]) {
				t.Errorf("%s: the ledgers %d and %d share memory", call, i, j)
			}
		}
	}
}

// checkKept checks that the arguments of a call are what they were.
func checkKept(t *testing.T, call string, kept ...func() bool) {
	t.Helper()
	for i, f := range kept {
		if !f() {
			t.Errorf("%s has changed its argument %d, or shares its memory", call, i)
		}
	}
}

// checkInit checks that Init returns want and e.
func checkInit(t *testing.T, accounts []api.Account, price uint64, want api.App, e api.Errno) {
	t.Helper()
	given, kept := guarded(accounts, account("zzz-spare", 1, 1))
	call := fmt.Sprintf("Init(%d accounts %v, %d)", len(accounts), accounts[:min(len(accounts), 4)], price)
	got, code := app.Init(given, price)
	if code != e {
		t.Errorf("%s has the error %d; want %d", call, code, e)
	}
	checkApp(t, call, got, want)
	checkKept(t, call, kept)
}

// checkRaw checks that Check of a and raw returns r, and Accept an application in which only Check differs: it is next.
func checkRaw(t *testing.T, a api.App, raw []byte, r api.Result, next api.Ledger) {
	t.Helper()
	given, kept := guardedApp(a)
	b, keptRaw := guarded(raw, '2')
	call := fmt.Sprintf("Check(%s, %x)", brief(a), raw)
	if got := app.Check(given, b); got != r {
		t.Errorf("%s = %v; want %v", call, got, r)
	}
	checkKept(t, call, kept, keptRaw)
	want := a
	want.Check = next
	call = fmt.Sprintf("Accept(%s, %x)", brief(a), raw)
	checkApp(t, call, app.Accept(given, b), want)
	checkKept(t, call, kept, keptRaw)
}

// checkReset checks that Reset of a has the committed ledger as Check, and nothing else changed.
func checkReset(t *testing.T, a api.App) {
	t.Helper()
	given, kept := guardedApp(a)
	call := fmt.Sprintf("Reset(%s)", brief(a))
	want := a
	want.Check = a.Committed
	checkApp(t, call, app.Reset(given), want)
	checkKept(t, call, kept)
}

// checkProcess checks that Process returns want.
func checkProcess(t *testing.T, a api.App, raws [][]byte, want bool) {
	t.Helper()
	given, kept := guardedApp(a)
	list, keptList := guardedList(raws)
	call := fmt.Sprintf("Process(%s, %s)", brief(a), few(raws))
	if got := app.Process(given, list); got != want {
		t.Errorf("%s = %v", call, got)
	}
	checkKept(t, call, kept, keptList)
}

// checkFinalize checks that Finalize returns want, results and e.
func checkFinalize(t *testing.T, a api.App, raws [][]byte, want api.App, results []api.Result, e api.Errno) {
	t.Helper()
	given, kept := guardedApp(a)
	list, keptList := guardedList(raws)
	call := fmt.Sprintf("Finalize(%s, %s)", brief(a), few(raws))
	got, is, code := app.Finalize(given, list)
	if code != e || !slices.Equal(is, results) {
		t.Errorf("%s has the results %v and the error %d; want %v and %d", call, is, code, results, e)
	}
	checkApp(t, call, got, want)
	fill(is, api.Result{Code: 99})
	checkKept(t, call, kept, keptList)
}

// checkBlock checks that Finalize of a, which is not open, returns a with the ledger next, open, and the results.
func checkBlock(t *testing.T, a api.App, raws [][]byte, next api.Ledger, results []api.Result) {
	t.Helper()
	want := a
	want.Next, want.Open = next, true
	checkFinalize(t, a, raws, want, results, api.OK)
}

// checkCommit checks that Commit returns want and e.
func checkCommit(t *testing.T, a api.App, want api.App, e api.Errno) {
	t.Helper()
	given, kept := guardedApp(a)
	call := fmt.Sprintf("Commit(%s)", brief(a))
	got, code := app.Commit(given)
	if code != e {
		t.Errorf("%s has the error %d; want %d", call, code, e)
	}
	checkApp(t, call, got, want)
	checkKept(t, call, kept)
}

// bank returns the ledger of most tests.
func bank() api.Ledger {
	return of(7, account("ann", 5000, 0), account("bob", 6000, 4), account("cid", 1000, 0))
}

// differing returns an application with three ledgers, in each of which another transaction of ann is the next one, and with the price 1.
func differing(open bool) api.App {
	return api.App{
		Committed: of(7, account("ann", 5000, 0), account("bob", 6000, 4)),
		Check:     of(70, account("ann", 4000, 1), account("cid", 600, 0)),
		Next:      of(700, account("ann", 3000, 2), account("dan", 60, 9)),
		Open:      open,
		Price:     1,
	}
}

// invalid returns ledgers that are not valid.
func invalid() []api.Ledger {
	return []api.Ledger{
		of(0, many(api.MaxAccounts+1)...),
		of(0, account("ann", 5000, 0), account("B", 1, 0)),
		of(0, account("ann", 5000, 0), account("ann", 5000, 0)),
		of(5, account("bob", 5000, 0), account("ann", 5000, 0)),
		of(top, account("ann", 5000, 0)),
	}
}

// apps returns applications of many kinds, also some that no call returns.
func apps() []api.App {
	l := []api.App{{}, {Open: true}, {Price: top}, {Committed: bank(), Check: bank(), Price: 1}, {Next: bank(), Price: 1}, {Next: bank(), Open: true}}
	for _, open := range []bool{false, true} {
		for _, price := range []uint64{0, 1, 2, top} {
			a := differing(open)
			a.Price = price
			l = append(l, a)
		}
		full := of(3, many(api.MaxAccounts)...)
		l = append(l, api.App{Committed: full, Check: full, Next: full, Open: open, Price: 1})
		for _, bad := range invalid() {
			l = append(l,
				api.App{Committed: bad, Check: bank(), Next: bank(), Open: open, Price: 1},
				api.App{Committed: bank(), Check: bad, Next: bank(), Open: open, Price: 1},
				api.App{Committed: bank(), Check: bank(), Next: bad, Open: open, Price: 1},
				api.App{Committed: bad, Check: bad, Next: bad, Open: open, Price: 1},
			)
		}
	}
	return l
}

// raws returns transactions, and bytes that are none.
func raws() [][]byte {
	return [][]byte{
		pay("ann", 0, 200, "bob", 5), pay("ann", 1, 200, "bob", 5), pay("ann", 2, 400, "bob", 5), pay("ann", 0, 0, "new", 5),
		pay("bob", 4, 400, "ann", 9), pay("cid", 0, 200, "cid", 1), pay("dan", 9, 0, "ann", 1), pay("n0003", 0, 200, "new", 1),
		pay("ann", 0, 200, "ann", top), pay("ann", 1, 200, "ann", 9999), pay("nobody", 0, 200, "ann", 1),
		nil, {1}, make([]byte, api.MaxTx+1),
	}
}

// lists returns lists of some of these transactions, from none to three of them.
func lists(elements [][]byte) [][][]byte {
	l := [][][]byte{nil, {}}
	for i, x := range elements {
		l = append(l, [][]byte{x})
		for j, y := range elements {
			l = append(l, [][]byte{x, y}, [][]byte{x, y, elements[(3*i+5*j)%len(elements)]})
		}
	}
	return l
}

// The examples of the chapter.
func TestExamples(t *testing.T) {
	a, e := app.Init(bank().Accounts, 1)
	if e != api.OK {
		t.Fatal("Init has the error", e)
	}
	first, second := pay("ann", 0, 200, "bob", 5), pay("ann", 1, 200, "bob", 6)
	if r := app.Check(app.Accept(a, first), second); r.Code != api.OK {
		t.Error("Check behind Accept of the transaction before it:", r)
	}
	if r := app.Check(a, second); r.Code != api.ErrSequence {
		t.Error("Check without Accept of the transaction before it:", r)
	}
	open, _, e := app.Finalize(a, [][]byte{first})
	if e != api.OK {
		t.Error("Finalize has the error", e)
	}
	if _, _, e := app.Finalize(open, [][]byte{first}); e != api.ErrState {
		t.Error("Finalize of an open application has the error", e)
	}
	if !app.Process(a, nil) {
		t.Error("Process of no transactions is false")
	}
}

// P15.1
func TestInit(t *testing.T) {
	sorted := of(0, account("a", 3, 9), account("b", 0, top), account("c-1", 7, 0), account("d", top-10, 1))
	full := of(0, many(api.MaxAccounts)...)
	shuffled := slices.Clone(full.Accounts)
	rand.New(rand.NewSource(1)).Shuffle(len(shuffled), func(i, j int) { shuffled[i], shuffled[j] = shuffled[j], shuffled[i] })
	for _, price := range []uint64{0, 1, 1000, top} {
		checkInit(t, nil, price, api.App{Price: price}, api.OK)
		checkInit(t, []api.Account{}, price, api.App{Price: price}, api.OK)
		checkInit(t, []api.Account{account("a", top, top)}, price, api.App{Committed: of(0, account("a", top, top)), Check: of(0, account("a", top, top)), Price: price}, api.OK)
		want := api.App{Committed: sorted, Check: sorted, Price: price}
		for _, order := range [][]int{{0, 1, 2, 3}, {3, 2, 1, 0}, {2, 0, 3, 1}, {1, 3, 0, 2}} {
			var accounts []api.Account
			for _, i := range order {
				accounts = append(accounts, sorted.Accounts[i])
			}
			checkInit(t, accounts, price, want, api.OK)
		}
		want = api.App{Committed: full, Check: full, Price: price}
		checkInit(t, full.Accounts, price, want, api.OK)
		checkInit(t, shuffled, price, want, api.OK)
	}
}

// P15.1: the errors are those of Genesis.
func TestInitErrors(t *testing.T) {
	for _, x := range []struct {
		accounts []api.Account
		e        api.Errno
	}{
		{many(api.MaxAccounts + 1), api.ErrLimit},
		{make([]api.Account, api.MaxAccounts+1), api.ErrLimit},
		{[]api.Account{{}}, api.ErrName},
		{[]api.Account{account("a", 1, 0), account("B", 1, 0)}, api.ErrName},
		{[]api.Account{account("a", 1, 0), account("B", 1, 0), account("a", 1, 0)}, api.ErrName},
		{[]api.Account{account("a", 1, 0), account("a", 1, 0), account("B", 1, 0)}, api.ErrDuplicate},
		{[]api.Account{account("a", 1, 0), account("b", 1, 0), account("a", 2, 0)}, api.ErrDuplicate},
		{[]api.Account{account("a", top, 0), account("a", top, 0)}, api.ErrDuplicate},
		{[]api.Account{account("b", 1<<63, 0), account("a", 1<<63, 0)}, api.ErrOverflow},
		{[]api.Account{account("a", top, 0), account("b", 1, 0)}, api.ErrOverflow},
	} {
		for _, price := range []uint64{0, 1, top} {
			checkInit(t, x.accounts, price, api.App{}, x.e)
		}
	}
}

// P15.2: results and ledgers that are written out. What counts is the ledger of the checks.
func TestCheckAndAccept(t *testing.T) {
	for _, open := range []bool{false, true} {
		a := differing(open)
		check := a.Check
		checkRaw(t, a, pay("ann", 1, 200, "cid", 5), result(api.OK, "ann", 1, 200), of(270, account("ann", 3795, 2), account("cid", 605, 0)))
		checkRaw(t, a, pay("ann", 1, 333, "bob", 5), result(api.OK, "ann", 1, 333), of(403, account("ann", 3662, 2), account("bob", 5, 0), account("cid", 600, 0)))
		checkRaw(t, a, pay("ann", 1, 300, "ann", 3700), result(api.OK, "ann", 1, 300), of(370, account("ann", 3700, 2), account("cid", 600, 0)))
		checkRaw(t, a, pay("cid", 0, 599, "ann", 1), result(api.OK, "cid", 0, 599), of(669, account("ann", 4001, 1), account("cid", 0, 1)))
		// With another Code nothing changes.
		checkRaw(t, a, pay("ann", 0, 200, "cid", 5), result(api.ErrSequence, "ann", 0, 200), check)
		checkRaw(t, a, pay("ann", 2, 200, "cid", 5), result(api.ErrSequence, "ann", 2, 200), check)
		checkRaw(t, a, pay("bob", 4, 200, "cid", 5), result(api.ErrSender, "bob", 4, 200), check)
		checkRaw(t, a, pay("dan", 9, 200, "cid", 5), result(api.ErrSender, "dan", 9, 200), check)
		checkRaw(t, a, pay("ann", 1, 199, "cid", 5), result(api.ErrFee, "ann", 1, 199), check)
		checkRaw(t, a, pay("cid", 0, 599, "ann", 2), result(api.ErrFunds, "cid", 0, 599), check)
		checkRaw(t, a, pay("cid", 0, 599, "ann", top), result(api.ErrOverflow, "cid", 0, 599), check)
		checkRaw(t, a, nil, api.Result{Code: api.ErrName}, check)
		checkRaw(t, a, []byte{1}, api.Result{Code: api.ErrEncoding}, check)
		checkRaw(t, a, make([]byte, api.MaxTx+1), api.Result{Code: api.ErrLimit}, check)
	}
}

// P15.2: the price counts.
func TestPrice(t *testing.T) {
	a := differing(false)
	a.Committed, a.Next = a.Check, api.Ledger{}
	raw := pay("ann", 1, 600, "cid", 5)
	next := of(670, account("ann", 3395, 2), account("cid", 605, 0))
	for _, x := range []struct {
		price uint64
		e     api.Errno
	}{{0, api.OK}, {1, api.OK}, {2, api.OK}, {3, api.OK}, {4, api.ErrFee}, {1000, api.ErrFee}, {top / 200, api.ErrFee}, {top/200 + 1, api.ErrOverflow}, {top, api.ErrOverflow}} {
		a.Price = x.price
		want := next
		if x.e != api.OK {
			want = a.Check
		}
		checkRaw(t, a, raw, result(x.e, "ann", 1, 600), want)
		checkProcess(t, a, [][]byte{raw}, x.e == api.OK)
		checkBlock(t, a, [][]byte{raw}, want, []api.Result{result(x.e, "ann", 1, 600)})
	}
}

// P15.2: a ledger of the checks that is not valid refuses everything, and any other one does not matter.
func TestCheckInvalid(t *testing.T) {
	raw := pay("ann", 0, 200, "bob", 5)
	good, next := bank(), of(207, account("ann", 4795, 1), account("bob", 6005, 4), account("cid", 1000, 0))
	for _, bad := range invalid() {
		checkRaw(t, api.App{Committed: good, Check: bad, Next: good, Price: 1}, raw, api.Result{Code: api.ErrArgument}, bad)
		checkRaw(t, api.App{Committed: good, Check: bad, Next: good, Price: 1}, nil, api.Result{Code: api.ErrArgument}, bad)
		checkRaw(t, api.App{Committed: bad, Check: good, Next: bad, Price: 1}, raw, result(api.OK, "ann", 0, 200), next)
	}
}

// P15.2: applications of all kinds.
func TestResetAndAcceptOfAll(t *testing.T) {
	for _, a := range apps() {
		checkReset(t, a)
		for _, raw := range raws() {
			next, r := apply.Tx(a.Check, a.Price, raw)
			checkRaw(t, a, raw, r, next)
		}
	}
}

// P15.2: Reset drops all that was accepted, and can be followed by Accept of the same again.
func TestResetBehindAccept(t *testing.T) {
	a := api.App{Committed: bank(), Check: bank(), Price: 1}
	b := a
	for _, raw := range [][]byte{pay("ann", 0, 200, "new", 5), pay("ann", 1, 200, "bob", 5), pay("new", 0, 0, "bob", 5), pay("bob", 4, 300, "cid", 1)} {
		b = app.Accept(b, raw)
		checkReset(t, b)
		checkApp(t, "Reset behind Accept", app.Reset(b), a)
	}
	want := of(707, account("ann", 4590, 2), account("bob", 5704, 5), account("cid", 1001, 0), account("new", 5, 0))
	if !sameLedger(b.Check, want) {
		t.Errorf("Accept of four transactions gives %s", brief(b))
	}
}

// P15.3: whether all can be carried out on the committed ledger.
func TestProcess(t *testing.T) {
	a, b, c := pay("ann", 0, 200, "bob", 5), pay("ann", 1, 200, "cid", 6), pay("bob", 4, 200, "ann", 7)
	for _, open := range []bool{false, true} {
		x := differing(open)
		for _, raws := range [][][]byte{nil, {}, {a}, {c}, {a, b}, {a, b, c}, {a, c, b}, {c, a, b}, {a, pay("ann", 1, 4600, "cid", 195)}} {
			checkProcess(t, x, raws, true)
		}
		for _, raws := range [][][]byte{
			{nil}, {{1}}, {make([]byte, api.MaxTx+1)}, {b}, {b, a}, {a, a}, {a, b, a}, {a, b, b}, {c, c},
			{nil, a, b, c}, {a, nil, b, c}, {a, b, c, nil}, {a, b, c, {1}},
			{pay("ann", 0, 199, "bob", 5)}, {a, pay("ann", 1, 199, "bob", 5)}, {a, pay("ann", 1, 4600, "cid", 196)},
			{pay("cid", 0, 200, "ann", 1)}, {pay("dan", 9, 200, "ann", 1)}, {a, b, pay("cid", 0, 200, "ann", 1)},
		} {
			checkProcess(t, x, raws, false)
		}
	}
}

// P15.3: only the committed ledger and the price count, and there is no limit for the number of transactions.
func TestProcessOfAll(t *testing.T) {
	for _, a := range apps() {
		for _, list := range append(lists(raws()[:6]), lists(raws()[5:8])...) {
			_, _, e := fold.Strict(a.Committed, a.Price, list)
			checkProcess(t, a, list, e == api.OK)
		}
	}
	for _, bad := range invalid() {
		checkProcess(t, api.App{Committed: bad, Check: bank(), Next: bank(), Price: 1}, nil, true)
		checkProcess(t, api.App{Committed: bad, Check: bank(), Next: bank(), Price: 1}, [][]byte{pay("ann", 0, 200, "bob", 5)}, false)
	}
	list, last := series(api.MaxTxs + 1)
	a := api.App{Committed: of(0, account("ann", 1000, 0), account("bob", 0, 0))}
	checkProcess(t, a, list, true)
	checkProcess(t, a, append(list, last), true)
	checkProcess(t, a, append(list, pay("ann", api.MaxTxs, 0, "bob", 1)), false)
}

// series returns n transactions of ann, each of which follows the one before it and gives 1 to bob without a fee, and the one behind them.
func series(n int) (list [][]byte, next []byte) {
	for i := range n {
		list = append(list, pay("ann", uint64(i), 0, "bob", 1))
	}
	return list, pay("ann", uint64(n), 0, "bob", 1)
}

// P15.4: blocks whose results and ledgers are written out.
func TestFinalize(t *testing.T) {
	a, b, c := pay("ann", 0, 200, "bob", 5), pay("ann", 1, 300, "cid", 6), pay("bob", 4, 400, "ann", 7)
	doneA, doneB, doneC := result(api.OK, "ann", 0, 200), result(api.OK, "ann", 1, 300), result(api.OK, "bob", 4, 400)
	x := differing(false)
	checkBlock(t, x, nil, x.Committed, nil)
	checkBlock(t, x, [][]byte{}, x.Committed, nil)
	checkBlock(t, x, [][]byte{a}, of(207, account("ann", 4795, 1), account("bob", 6005, 4)), []api.Result{doneA})
	checkBlock(t, x, [][]byte{a, b}, of(507, account("ann", 4489, 2), account("bob", 6005, 4), account("cid", 6, 0)), []api.Result{doneA, doneB})
	last := of(907, account("ann", 4496, 2), account("bob", 5598, 5), account("cid", 6, 0))
	checkBlock(t, x, [][]byte{a, b, c}, last, []api.Result{doneA, doneB, doneC})
	checkBlock(t, x, [][]byte{c, a, b}, last, []api.Result{doneC, doneA, doneB})
	// One that fails changes nothing.
	checkBlock(t, x, [][]byte{b, a, a, nil, b, {1}, c, c}, last, []api.Result{
		result(api.ErrSequence, "ann", 1, 300), doneA, result(api.ErrSequence, "ann", 0, 200), {Code: api.ErrName}, doneB, {Code: api.ErrEncoding}, doneC, result(api.ErrSequence, "bob", 4, 400)})
	checkBlock(t, x, [][]byte{pay("cid", 0, 200, "ann", 1), pay("ann", 2, 200, "bob", 1)}, x.Committed, []api.Result{result(api.ErrSender, "cid", 0, 200), result(api.ErrSequence, "ann", 2, 200)})
}

// P15.4: the errors of Finalize and of Commit.
func TestBlockErrors(t *testing.T) {
	list, next := series(api.MaxTxs)
	tooMany := append(slices.Clone(list), next)
	a := api.App{Committed: of(0, account("ann", 1000, 0), account("bob", 0, 0)), Check: bank(), Next: bank()}
	var results []api.Result
	for i := range uint64(api.MaxTxs) {
		results = append(results, result(api.OK, "ann", i, 0))
	}
	checkBlock(t, a, list, of(0, account("ann", 1000-api.MaxTxs, api.MaxTxs), account("bob", api.MaxTxs, 0)), results)
	checkFinalize(t, a, tooMany, api.App{}, nil, api.ErrLimit)
	checkFinalize(t, a, make([][]byte, api.MaxTxs+1), api.App{}, nil, api.ErrLimit)
	checkFinalize(t, a, make([][]byte, 3*api.MaxTxs), api.App{}, nil, api.ErrLimit)
	checkCommit(t, a, api.App{}, api.ErrState)
	a.Open = true
	for _, raws := range [][][]byte{nil, {}, {nil}, {next}, list, tooMany} {
		checkFinalize(t, a, raws, api.App{}, nil, api.ErrState)
	}
	checkCommit(t, a, api.App{Committed: bank(), Check: bank()}, api.OK)
}

// P15.4: applications of all kinds.
func TestBlocksOfAll(t *testing.T) {
	for _, a := range apps() {
		if a.Open {
			checkCommit(t, a, api.App{Committed: a.Next, Check: a.Next, Price: a.Price}, api.OK)
			checkFinalize(t, a, raws(), api.App{}, nil, api.ErrState)
			continue
		}
		checkCommit(t, a, api.App{}, api.ErrState)
		for _, list := range append(lists(raws()[:5]), raws()) {
			next, results := fold.All(a.Committed, a.Price, list)
			checkBlock(t, a, list, next, results)
		}
	}
}

// P15.4: Commit drops what was accepted before, also if that happened behind Finalize.
func TestCommitDropsAccepted(t *testing.T) {
	a, e := app.Init(bank().Accounts, 1)
	if e != api.OK {
		t.Fatal("Init has the error", e)
	}
	accepted := pay("bob", 4, 300, "cid", 9)
	open, _, _ := app.Finalize(app.Accept(a, accepted), [][]byte{pay("ann", 0, 200, "bob", 5)})
	next := of(200, account("ann", 4795, 1), account("bob", 6005, 4), account("cid", 1000, 0))
	want := api.App{Committed: next, Check: next, Price: 1}
	checkCommit(t, open, want, api.OK)
	checkCommit(t, app.Accept(open, pay("cid", 0, 200, "ann", 1)), want, api.OK)
	checkCommit(t, app.Reset(open), want, api.OK)
	done, _ := app.Commit(open)
	if r := app.Check(done, accepted); r != result(api.OK, "bob", 4, 300) {
		t.Error("Check of a transaction that Commit dropped:", r)
	}
}

// P15.5: Check, Accept and Reset never change Committed.
func TestCommittedStays(t *testing.T) {
	for _, a := range apps() {
		b := copyOf(a)
		for i, raw := range append(raws(), raws()...) {
			app.Check(b, raw)
			b = app.Accept(b, raw)
			if i%5 == 4 {
				b = app.Reset(b)
			}
			if !sameLedger(b.Committed, a.Committed) {
				t.Errorf("%s has become %s", brief(a), brief(b))
			}
		}
	}
}

// P15.5: if Process is true, all Codes of Finalize are OK, and otherwise they are not. Behind Commit, a transaction that was carried out is refused.
func TestBlocks(t *testing.T) {
	whole, broken := 0, 0
	for _, a := range apps() {
		if a.Open {
			continue
		}
		for _, list := range lists(raws()) {
			open, results, e := app.Finalize(a, list)
			done, f := app.Commit(open)
			if e != api.OK || f != api.OK {
				t.Fatalf("Finalize(%s, %s) and Commit have the errors %d and %d", brief(a), few(list), e, f)
			}
			fails := slices.ContainsFunc(results, func(r api.Result) bool { return r.Code != api.OK })
			if app.Process(a, list) == fails {
				t.Errorf("Process(%s, %s) = %v, but the results are %v", brief(a), few(list), fails, results)
			}
			for i, r := range results {
				if again := app.Check(done, list[i]); r.Code == api.OK && again.Code != api.ErrSequence {
					t.Errorf("%x was carried out in %s of %s, but Check returns %v behind it", list[i], few(list), brief(a), again)
				}
			}
			if fails {
				broken++
			} else if len(list) > 1 {
				whole++
			}
		}
	}
	if whole < 10 || broken < 100 {
		t.Errorf("%d blocks were carried out as a whole, and %d were not", whole, broken)
	}
}

// random returns the bytes of a transaction that may well be one that l carries out, or not one at all.
func random(r *rand.Rand, l api.Ledger) []byte {
	a := l.Accounts[r.Intn(len(l.Accounts))]
	sequence, fee, amount := a.Sequence, 200+uint64(r.Intn(30)), 1+uint64(r.Intn(90))
	switch r.Intn(8) {
	case 0:
		sequence += uint64(r.Intn(3))
	case 1:
		fee = 199
	case 2:
		amount += a.Balance
	case 3:
		return make([]byte, r.Intn(3))
	}
	return pay(a.Name, sequence, fee, fmt.Sprint("n", r.Intn(40)), amount)
}

// finalize does Process and Finalize of a random block, and returns what Finalize gives, or a itself if it gives an error. The transactions that were carried out are put behind done.
func finalize(t *testing.T, r *rand.Rand, a api.App, done [][]byte) (api.App, [][]byte) {
	t.Helper()
	var block [][]byte
	l := a.Committed
	for range r.Intn(8) {
		block = append(block, random(r, l))
		l, _ = apply.Tx(l, a.Price, block[len(block)-1])
	}
	next, results := fold.All(a.Committed, a.Price, block)
	checkProcess(t, a, block, !slices.ContainsFunc(results, func(x api.Result) bool { return x.Code != api.OK }))
	if a.Open {
		checkFinalize(t, a, block, api.App{}, nil, api.ErrState)
		return a, done
	}
	checkBlock(t, a, block, next, results)
	for i, x := range results {
		if x.Code == api.OK {
			done = append(done, block[i])
		}
	}
	open, _, _ := app.Finalize(a, block)
	return open, done
}

// commit does Commit of a, and returns what it gives, or a itself if it gives an error. The transactions done were carried out before.
func commit(t *testing.T, a api.App, done [][]byte) api.App {
	t.Helper()
	if !a.Open {
		checkCommit(t, a, api.App{}, api.ErrState)
		return a
	}
	checkCommit(t, a, api.App{Committed: a.Next, Check: a.Next, Price: a.Price}, api.OK)
	committed, _ := app.Commit(a)
	for _, raw := range done {
		if x := app.Check(committed, raw); x.Code != api.ErrSequence {
			t.Errorf("%x was carried out before, but Check returns %v", raw, x)
		}
	}
	return committed
}

// accept does Check and Accept of a random transaction.
func accept(t *testing.T, r *rand.Rand, a api.App) api.App {
	t.Helper()
	raw := random(r, a.Check)
	next, x := apply.Tx(a.Check, a.Price, raw)
	checkRaw(t, a, raw, x, next)
	return app.Accept(a, raw)
}

// P15.1 to P15.5: long sequences of operations, behind which all earlier applications are what they were, and no money is lost.
func TestSequences(t *testing.T) {
	total := 0
	for seed := range 20 {
		r := rand.New(rand.NewSource(int64(seed)))
		var accounts []api.Account
		for i := range 10 {
			accounts = append(accounts, account(fmt.Sprint("n", i), 5000, uint64(i)))
		}
		a, e := app.Init(accounts, 1)
		if e != api.OK {
			t.Fatal("Init has the error", e)
		}
		var states, copies []api.App
		var done [][]byte
		for range 150 {
			states, copies = append(states, a), append(copies, copyOf(a))
			switch r.Intn(6) {
			case 0:
				checkReset(t, a)
				a = app.Reset(a)
			case 1:
				a, done = finalize(t, r, a, done)
			case 2:
				a = commit(t, a, done)
			default:
				a = accept(t, r, a)
			}
			for _, l := range []api.Ledger{a.Committed, a.Check} {
				if n, ok := ledger.Total(l); n != 50000 || !ok {
					t.Fatalf("the total of a ledger of %s is %d", brief(a), n)
				}
			}
		}
		total += len(done)
		for i := range states {
			if !same(states[i], copies[i]) {
				t.Errorf("the application %d of the sequence %d was changed", i, seed)
			}
		}
	}
	if total < 200 {
		t.Errorf("only %d transactions were carried out", total)
	}
}

// R2: results share memory with no other result.
func TestResultsApart(t *testing.T) {
	a := differing(false)
	open := differing(true)
	raw, bad := pay("ann", 1, 200, "cid", 5), []byte{1}
	var all []api.App
	for range 2 {
		x, _ := app.Init(bank().Accounts, 1)
		y, _, _ := app.Finalize(a, nil)
		z, _, _ := app.Finalize(a, [][]byte{raw})
		c, _ := app.Commit(open)
		all = append(all, x, app.Accept(a, raw), app.Accept(a, bad), app.Accept(open, bad), app.Reset(a), app.Reset(open), y, z, c)
	}
	var copies []api.App
	for _, x := range all {
		copies = append(copies, copyOf(x))
	}
	for i, x := range all {
		for _, l := range []api.Ledger{x.Committed, x.Check, x.Next} {
			fill(l.Accounts, account("overwritten", 99, 99))
		}
		for j := i + 1; j < len(all); j++ {
			if !same(all[j], copies[j]) {
				t.Errorf("the results %d and %d share memory", i, j)
			}
		}
	}
	if !same(a, differing(false)) || !same(open, differing(true)) {
		t.Error("a result shares memory with an argument")
	}
}
