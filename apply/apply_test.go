package apply_test

import (
	"cmp"
	"encoding/binary"
	"fmt"
	"math"
	"math/big"
	"math/rand"
	"slices"
	"strings"
	"testing"

	"mempool/api"
	"mempool/apply"
	"mempool/ledger"
	"mempool/tx"
)

const top = math.MaxUint64

// of returns the ledger with these accounts, and nothing collected.
func of(accounts ...api.Account) api.Ledger {
	return api.Ledger{Accounts: accounts}
}

// account returns an account.
func account(name string, balance, sequence uint64) api.Account {
	return api.Account{Name: name, Balance: balance, Sequence: sequence}
}

// many returns n accounts in order, between which there is room for other names.
func many(n int) []api.Account {
	var l []api.Account
	for i := range n {
		l = append(l, account(fmt.Sprintf("n%04d", 2*i), uint64(1000+i), uint64(i%3)))
	}
	return l
}

// between returns a name that comes directly behind that of the account i of many.
func between(i int) string {
	return fmt.Sprintf("n%04d", 2*i+1)
}

// to returns a transfer.
func to(name string, amount uint64) api.Transfer {
	return api.Transfer{To: name, Amount: amount}
}

// pay returns a transaction with much gas and these transfers.
func pay(from string, sequence, fee uint64, transfers ...api.Transfer) api.Tx {
	return api.Tx{Sender: from, Sequence: sequence, Gas: 5000, Fee: fee, Transfers: transfers}
}

// text appends a field with this tag and text, unless the text is empty.
func text(b []byte, tag byte, s string) []byte {
	if s == "" {
		return b
	}
	return append(binary.AppendUvarint(append(b, tag), uint64(len(s))), s...)
}

// number appends a field with this tag and value, unless the value is 0.
func number(b []byte, tag byte, n uint64) []byte {
	if n == 0 {
		return b
	}
	return binary.AppendUvarint(append(b, tag), n)
}

// encoding says what chapter 10 says of the encoding of any transaction, valid or not.
func encoding(t api.Tx) []byte {
	b := number(number(number(text(nil, 10, t.Sender), 16, t.Sequence), 24, t.Gas), 32, t.Fee)
	b = text(b, 42, t.Memo)
	for _, x := range t.Transfers {
		inner := number(text(nil, 10, x.To), 16, x.Amount)
		b = append(binary.AppendUvarint(append(b, 50), uint64(len(inner))), inner...)
	}
	return b
}

// used says what chapter 12 says of the gas of t.
func used(t api.Tx) uint64 {
	return uint64(50 + len(encoding(t)) + 20*len(t.Transfers))
}

// exact returns t with the least gas that is enough for it.
func exact(t api.Tx) api.Tx {
	for t.Gas = 1; t.Gas < used(t); t.Gas++ {
	}
	return t
}

// wide returns n without a limit.
func wide(n uint64) *big.Int {
	return new(big.Int).SetUint64(n)
}

// priority says what chapter 12 says of Priority.
func priority(fee, gas uint64) uint64 {
	if gas == 0 {
		return 0
	}
	n := new(big.Int).Mul(wide(1000), wide(fee))
	n.Div(n, wide(gas))
	if !n.IsUint64() {
		return top
	}
	return n.Uint64()
}

// cost returns the fee and all amounts of t.
func cost(t api.Tx) *big.Int {
	sum := wide(t.Fee)
	for _, x := range t.Transfers {
		sum.Add(sum, wide(x.Amount))
	}
	return sum
}

// book returns the accounts of l by their names.
func book(l api.Ledger) map[string]api.Account {
	m := map[string]api.Account{}
	for _, a := range l.Accounts {
		m[a.Name] = a
	}
	return m
}

// judge says which Code a transaction has on a ledger, both of which are valid.
func judge(l api.Ledger, price uint64, t api.Tx, size int) api.Errno {
	accounts := book(l)
	a, known := accounts[t.Sender]
	for _, x := range t.Transfers {
		accounts[x.To] = api.Account{}
	}
	need := new(big.Int).Mul(wide(t.Gas), wide(price))
	for _, x := range []struct {
		wrong bool
		e     api.Errno
	}{
		{!known, api.ErrSender},
		{a.Sequence != t.Sequence, api.ErrSequence},
		{a.Sequence == top, api.ErrOverflow},
		{t.Gas < uint64(50+size+20*len(t.Transfers)), api.ErrGas},
		{!need.IsUint64(), api.ErrOverflow},
		{wide(t.Fee).Cmp(need) < 0, api.ErrFee},
		{!cost(t).IsUint64(), api.ErrOverflow},
		{wide(a.Balance).Cmp(cost(t)) < 0, api.ErrFunds},
		{len(accounts) > 256, api.ErrLimit},
	} {
		if x.wrong {
			return x.e
		}
	}
	return api.OK
}

// effect says what the chapter says of the ledger behind a transaction with the Code OK.
func effect(l api.Ledger, t api.Tx) api.Ledger {
	accounts := book(l)
	a := accounts[t.Sender]
	a.Balance -= cost(t).Uint64()
	a.Sequence++
	accounts[t.Sender] = a
	for _, x := range t.Transfers {
		b := accounts[x.To]
		accounts[x.To] = account(x.To, b.Balance+x.Amount, b.Sequence)
	}
	r := api.Ledger{Collected: l.Collected + t.Fee}
	for _, a := range accounts {
		r.Accounts = append(r.Accounts, a)
	}
	slices.SortFunc(r.Accounts, func(a, b api.Account) int { return cmp.Compare(a.Name, b.Name) })
	return r
}

// define says what the chapter says of Tx.
func define(l api.Ledger, price uint64, raw []byte) (api.Ledger, api.Result) {
	if ledger.Validate(l) != api.OK {
		return l, api.Result{Code: api.ErrArgument}
	}
	t, e := tx.Decode(raw)
	if e != api.OK {
		return l, api.Result{Code: e}
	}
	r := api.Result{Code: judge(l, price, t, len(raw)), Sender: t.Sender, Sequence: t.Sequence, Gas: t.Gas, Priority: priority(t.Fee, t.Gas)}
	if r.Code != api.OK {
		return l, r
	}
	return effect(l, t), r
}

// same reports whether a and b are equal.
func same(a, b api.Ledger) bool {
	return slices.Equal(a.Accounts, b.Accounts) && a.Collected == b.Collected
}

// brief returns the beginning of a ledger, for reports.
func brief(l api.Ledger) string {
	return fmt.Sprint(len(l.Accounts), " accounts ", l.Accounts[:min(len(l.Accounts), 8)], " and ", l.Collected)
}

// guarded returns a copy of l with spare capacity, and a function that reports whether both are still what they were.
func guarded[T comparable](l []T, spare T) (copied []T, kept func() bool) {
	all := append(slices.Clone(l), spare, spare, spare)
	before := slices.Clone(all)
	return all[:len(l)], func() bool { return slices.Equal(all, before) }
}

// overwrite changes all the memory of l.
func overwrite(l []api.Account) {
	l = l[:cap(l)]
	for i := range l {
		l[i] = account("overwritten", 99, 99)
	}
}

// checkRaw checks that Tx of these bytes returns this ledger and this result, in memory of its own. It returns a ledger that is equal to the one that Tx has returned.
func checkRaw(t *testing.T, l api.Ledger, price uint64, raw []byte, want api.Ledger, r api.Result) api.Ledger {
	t.Helper()
	// The spare capacity would pass for an account, and for more of a transaction.
	accounts, kept := guarded(l.Accounts, account("zzz-spare", 1, 1))
	b, keptRaw := guarded(raw, '2')
	got, is := apply.Tx(api.Ledger{Accounts: accounts, Collected: l.Collected}, price, b)
	if is != r || !same(got, want) {
		t.Errorf("Tx(%s, %d, %x) = %s, %v; want %s, %v", brief(l), price, raw[:min(len(raw), 99)], brief(got), is, brief(want), r)
	}
	copied := api.Ledger{Accounts: slices.Clone(got.Accounts), Collected: got.Collected}
	overwrite(got.Accounts)
	if !kept() || !keptRaw() {
		t.Errorf("Tx(%s, %d, %x) has changed an argument, or shares its memory", brief(l), price, raw[:min(len(raw), 99)])
	}
	return copied
}

// checkDone checks that Tx of x returns want and OK, a valid ledger with the total of l, on which the same bytes return ErrSequence.
func checkDone(t *testing.T, l api.Ledger, price uint64, x api.Tx, want api.Ledger) api.Ledger {
	t.Helper()
	r := api.Result{Code: api.OK, Sender: x.Sender, Sequence: x.Sequence, Gas: x.Gas, Priority: priority(x.Fee, x.Gas)}
	raw := encoding(x)
	got := checkRaw(t, l, price, raw, want, r)
	before, _ := ledger.Total(l)
	if after, ok := ledger.Total(got); ledger.Validate(got) != api.OK || after != before || !ok {
		t.Errorf("Tx(%s, %d, %v) = %s, which is not valid, or has another total", brief(l), price, x, brief(got))
	}
	r.Code = api.ErrSequence
	checkRaw(t, got, price, raw, got, r)
	return got
}

// checkRefused checks that Tx of the transaction x returns l, e, and what there is to know about x.
func checkRefused(t *testing.T, l api.Ledger, price uint64, x api.Tx, e api.Errno) {
	t.Helper()
	checkRaw(t, l, price, encoding(x), l, api.Result{Code: e, Sender: x.Sender, Sequence: x.Sequence, Gas: x.Gas, Priority: priority(x.Fee, x.Gas)})
}

// checkUnread checks that Tx of these bytes returns l, e, and nothing else.
func checkUnread(t *testing.T, l api.Ledger, raw []byte, e api.Errno) {
	t.Helper()
	for _, price := range []uint64{0, 1, top} {
		checkRaw(t, l, price, raw, l, api.Result{Code: e})
	}
}

// checkDefined checks that Tx returns what the definition says, and returns this.
func checkDefined(t *testing.T, l api.Ledger, price uint64, raw []byte) (api.Ledger, api.Result) {
	t.Helper()
	want, r := define(l, price, raw)
	return checkRaw(t, l, price, raw, want, r), r
}

// The examples of the chapter.
func TestExamples(t *testing.T) {
	a := account("a", 20, 0)
	x := pay("a", 0, 9, to("b", 5))
	want := api.Ledger{Accounts: []api.Account{account("a", 6, 1), account("b", 5, 0)}, Collected: 9}
	checkDone(t, of(a), 0, x, want)
	checkDone(t, of(a, account("b", 0, 0)), 0, x, want)
	checkRefused(t, want, 0, x, api.ErrSequence)
	checkDone(t, of(a), 0, pay("a", 0, 9, to("a", 5)), api.Ledger{Accounts: []api.Account{account("a", 11, 1)}, Collected: 9})
}

// P13.1: what a transaction changes, and what it does not.
func TestEffects(t *testing.T) {
	l := api.Ledger{Accounts: []api.Account{account("ann", 100, 0), account("bob", 200, 7), account("cid", 0, 2)}, Collected: 3}
	for _, x := range []struct {
		tx                  api.Tx
		ann, bob, cid, fees uint64
		others              []api.Account
	}{
		// One transfer, to and fro.
		{pay("ann", 0, 10, to("bob", 5)), 85, 205, 0, 13, nil},
		{pay("ann", 0, 0, to("bob", 1)), 99, 201, 0, 3, nil},
		{pay("ann", 0, 1, to("cid", 99)), 0, 200, 99, 4, nil},
		{pay("ann", 0, 99, to("cid", 1)), 0, 200, 1, 102, nil},
		{pay("ann", 0, 0, to("cid", 100)), 0, 200, 100, 3, nil},
		{pay("bob", 7, 20, to("ann", 30)), 130, 150, 0, 23, nil},
		{pay("bob", 7, 0, to("ann", 200)), 300, 0, 0, 3, nil},
		// Several transfers.
		{pay("ann", 0, 10, to("bob", 5), to("cid", 6)), 79, 205, 6, 13, nil},
		{pay("ann", 0, 10, to("cid", 6), to("bob", 5)), 79, 205, 6, 13, nil},
		{pay("ann", 0, 10, to("bob", 5), to("bob", 7)), 78, 212, 0, 13, nil},
		{pay("bob", 7, 2, to("cid", 1), to("ann", 2), to("cid", 3), to("ann", 4)), 106, 188, 4, 5, nil},
		// To the sender itself, also with others.
		{pay("ann", 0, 10, to("ann", 5)), 90, 200, 0, 13, nil},
		{pay("ann", 0, 10, to("ann", 90)), 90, 200, 0, 13, nil},
		{pay("ann", 0, 0, to("ann", 100)), 100, 200, 0, 3, nil},
		{pay("ann", 0, 0, to("ann", 50), to("ann", 50)), 100, 200, 0, 3, nil},
		{pay("ann", 0, 1, to("ann", 50), to("bob", 49)), 50, 249, 0, 4, nil},
		{pay("ann", 0, 1, to("bob", 49), to("ann", 50)), 50, 249, 0, 4, nil},
		{pay("ann", 0, 1, to("ann", 1), to("cid", 2), to("ann", 3), to("cid", 4)), 93, 200, 6, 4, nil},
		// To new accounts.
		{pay("ann", 0, 10, to("art", 5)), 85, 200, 0, 13, []api.Account{account("art", 5, 0)}},
		{pay("ann", 0, 10, to("a", 5)), 85, 200, 0, 13, []api.Account{account("a", 5, 0)}},
		{pay("ann", 0, 10, to("zoe", 5)), 85, 200, 0, 13, []api.Account{account("zoe", 5, 0)}},
		{pay("ann", 0, 10, to("zoe", 5), to("art", 6)), 79, 200, 0, 13, []api.Account{account("art", 6, 0), account("zoe", 5, 0)}},
		{pay("ann", 0, 10, to("zoe", 5), to("zoe", 6)), 79, 200, 0, 13, []api.Account{account("zoe", 11, 0)}},
		{pay("ann", 0, 10, to("zoe", 5), to("bob", 1), to("art", 2), to("ann", 3), to("zoe", 6)), 76, 201, 0, 13, []api.Account{account("art", 2, 0), account("zoe", 11, 0)}},
		{pay("bob", 7, 0, to("-", 50), to("0", 50), to("z", 50), to("b", 50)), 100, 0, 0, 3, []api.Account{account("-", 50, 0), account("0", 50, 0), account("b", 50, 0), account("z", 50, 0)}},
	} {
		accounts := append(slices.Clone(x.others), account("ann", x.ann, 0), account("bob", x.bob, 7), account("cid", x.cid, 2))
		for i, a := range accounts {
			if a.Name == x.tx.Sender {
				accounts[i].Sequence++
			}
		}
		slices.SortFunc(accounts, func(a, b api.Account) int { return cmp.Compare(a.Name, b.Name) })
		checkDone(t, l, 0, x.tx, api.Ledger{Accounts: accounts, Collected: x.fees})
	}
}

// P13.1: the balance that is there when the transaction begins is what counts, not what a transfer brings.
func TestTakesFirst(t *testing.T) {
	l := of(account("ann", 100, 0), account("bob", 5, 0))
	checkRefused(t, l, 0, pay("ann", 0, 0, to("ann", 101)), api.ErrFunds)
	checkRefused(t, l, 0, pay("ann", 0, 1, to("ann", 100)), api.ErrFunds)
	checkRefused(t, l, 0, pay("ann", 0, 0, to("ann", 50), to("ann", 51)), api.ErrFunds)
	checkRefused(t, l, 0, pay("ann", 0, 0, to("ann", 100), to("bob", 1)), api.ErrFunds)
	checkDone(t, l, 0, pay("ann", 0, 1, to("ann", 99)), api.Ledger{Accounts: []api.Account{account("ann", 99, 1), account("bob", 5, 0)}, Collected: 1})
	// There is no room for what is given until it is taken.
	full := api.Ledger{Accounts: []api.Account{account("ann", top-5, 0), account("bob", 2, 0)}, Collected: 3}
	checkDone(t, full, 0, pay("ann", 0, 5, to("ann", top-10)), api.Ledger{Accounts: []api.Account{account("ann", top-10, 1), account("bob", 2, 0)}, Collected: 8})
	checkDone(t, full, 0, pay("ann", 0, 5, to("bob", top-10)), api.Ledger{Accounts: []api.Account{account("ann", 0, 1), account("bob", top-8, 0)}, Collected: 8})
	checkDone(t, full, 0, pay("ann", 0, top-6, to("bob", 1)), api.Ledger{Accounts: []api.Account{account("ann", 0, 1), account("bob", 3, 0)}, Collected: top - 3})
	// A sender whose account comes behind that of the other one.
	checkDone(t, of(account("ann", 5, 0), account("bob", top-5, 0)), 0, pay("bob", 0, 1, to("ann", top-7), to("bob", 1)),
		api.Ledger{Accounts: []api.Account{account("ann", top-2, 0), account("bob", 1, 1)}, Collected: 1})
}

// attempt is a call of Tx: tail is what stands behind the encoding of the transaction.
type attempt struct {
	l     api.Ledger
	price uint64
	tx    api.Tx
	tail  []byte
}

// good returns an attempt without a fault, on a ledger that has room for just the transfers of its transaction.
func good() attempt {
	l := of(many(255)...)
	l.Accounts[7] = account(l.Accounts[7].Name, 1000, 3)
	return attempt{l: l, price: 2, tx: api.Tx{Sender: l.Accounts[7].Name, Sequence: 3, Gas: 200, Fee: 500, Memo: "x", Transfers: []api.Transfer{to(between(9), 1), to(l.Accounts[20].Name, 2)}}}
}

// raw returns the bytes of the attempt.
func (a *attempt) raw() []byte {
	return append(encoding(a.tx), a.tail...)
}

// sender returns the account of the sender of good.
func (a *attempt) sender() *api.Account {
	return &a.l.Accounts[7]
}

// fault spoils an attempt, so that it has this error. A fault of the same rank is one of another form.
type fault struct {
	rank  int
	name  string
	e     api.Errno
	spoil func(a *attempt)
}

// faults lists faults in the order in which the chapter lists their errors. The spoils of two ranks can be done one after the other, the later one first.
func faults() []fault {
	return []fault{
		{1, "names in no order", api.ErrArgument, func(a *attempt) { l := a.l.Accounts; l[1], l[2] = l[2], l[1] }},
		{1, "a name twice", api.ErrArgument, func(a *attempt) { l := a.l.Accounts; l[2].Name = l[1].Name }},
		{1, "a bad name", api.ErrArgument, func(a *attempt) { a.l.Accounts[0].Name = "N" }},
		{1, "too many accounts", api.ErrArgument, func(a *attempt) { a.l.Accounts = append(a.l.Accounts, account("y", 0, 0), account("z", 0, 0)) }},
		{1, "a total that is too large", api.ErrArgument, func(a *attempt) { a.l.Collected = top }},
		{2, "4097 bytes", api.ErrLimit, func(a *attempt) { a.tail = append(a.tail, make([]byte, 4097-len(a.raw()))...) }},
		{3, "a byte too many", api.ErrEncoding, func(a *attempt) { a.tail = []byte{0} }},
		{3, "a field too many", api.ErrEncoding, func(a *attempt) { a.tail = []byte{16, 1} }},
		{4, "a bad sender", api.ErrName, func(a *attempt) { a.tx.Sender = "N" }},
		{5, "no gas", api.ErrGas, func(a *attempt) { a.tx.Gas = 0 }},
		{6, "a bad memo", api.ErrMemo, func(a *attempt) { a.tx.Memo = "\xff" }},
		{7, "no transfers", api.ErrLimit, func(a *attempt) { a.tx.Transfers = nil }},
		{7, "17 transfers", api.ErrLimit, func(a *attempt) { a.tx.Transfers = slices.Repeat(a.tx.Transfers[:1], 17) }},
		{8, "a bad name in a transfer", api.ErrName, func(a *attempt) { a.tx.Transfers[0].To = "?" }},
		{9, "no amount", api.ErrAmount, func(a *attempt) { a.tx.Transfers[0].Amount = 0 }},
		{10, "an unknown sender", api.ErrSender, func(a *attempt) { a.tx.Sender = between(7) }},
		{10, "another unknown sender", api.ErrSender, func(a *attempt) { a.tx.Sender = "n" }},
		{11, "an earlier sequence", api.ErrSequence, func(a *attempt) { a.tx.Sequence-- }},
		{11, "a later sequence", api.ErrSequence, func(a *attempt) { a.sender().Sequence-- }},
		{12, "the greatest sequence", api.ErrOverflow, func(a *attempt) { a.tx.Sequence, a.sender().Sequence = top, top }},
		{13, "too little gas", api.ErrGas, func(a *attempt) { a.tx = exact(a.tx); a.tx.Gas-- }},
		{13, "almost no gas", api.ErrGas, func(a *attempt) { a.tx.Gas = 2 }},
		{14, "a fee that has no value", api.ErrOverflow, func(a *attempt) { a.price = top/2 + 1 }},
		{14, "no fee that has a value", api.ErrOverflow, func(a *attempt) { a.price, a.tx.Fee = top, 0 }},
		{15, "a fee that is too low", api.ErrFee, func(a *attempt) { a.tx.Fee = 3 }},
		{15, "no fee", api.ErrFee, func(a *attempt) { a.tx.Fee = 0 }},
		{16, "amounts that are too large", api.ErrOverflow, func(a *attempt) { a.tx.Transfers[0].Amount = top; a.tx.Transfers[1].Amount = 5 }},
		{16, "a last amount that is too large", api.ErrOverflow, func(a *attempt) { a.tx.Transfers[1].Amount = top - 500 }},
		{17, "too low a balance", api.ErrFunds, func(a *attempt) { a.sender().Balance = 502 }},
		{17, "no balance", api.ErrFunds, func(a *attempt) { a.sender().Balance = 0 }},
		{18, "256 accounts and one more", api.ErrLimit, func(a *attempt) { a.l.Accounts = append(a.l.Accounts, account("x", 0, 0)) }},
		{18, "255 accounts and two more", api.ErrLimit, func(a *attempt) { a.tx.Transfers[1].To = "y" }},
	}
}

// check checks that Tx of the attempt returns e.
func (a *attempt) check(t *testing.T, e api.Errno, why string) {
	t.Helper()
	if _, r := checkDefined(t, a.l, a.price, a.raw()); r.Code != e {
		t.Errorf("the definition returns %d for %s; want %d", r.Code, why, e)
	}
}

// P13.1, P13.2: each error alone.
func TestErrors(t *testing.T) {
	ok := good()
	ok.check(t, api.OK, "no fault")
	for _, f := range faults() {
		a := good()
		f.spoil(&a)
		a.check(t, f.e, f.name)
	}
}

// P13.1, P13.2: the first one of two errors, for all pairs.
func TestOrderOfErrors(t *testing.T) {
	for i, f := range faults() {
		for _, g := range faults()[i+1:] {
			if f.rank == g.rank {
				continue
			}
			a := good()
			g.spoil(&a)
			f.spoil(&a)
			a.check(t, f.e, f.name+" and "+g.name)
		}
	}
}

// P13.1, P13.2: the first one of three errors, the last two of which are neighbours, and of all that can be there at once.
func TestOrderOfManyErrors(t *testing.T) {
	list := faults()
	for i, f := range list {
		for j := i + 1; j+1 < len(list); j++ {
			g, h := list[j], list[j+1]
			if f.rank == g.rank || g.rank == h.rank {
				continue
			}
			a := good()
			h.spoil(&a)
			g.spoil(&a)
			f.spoil(&a)
			a.check(t, f.e, f.name+", "+g.name+" and "+h.name)
		}
		a := good()
		last := f.rank
		for _, g := range slices.Backward(list[i:]) {
			if g.rank != f.rank && g.rank != last {
				g.spoil(&a)
				last = g.rank
			}
		}
		f.spoil(&a)
		a.check(t, f.e, f.name+" and all behind it")
	}
}

// P13.1: every error of a ledger that is not valid is an ErrArgument, before all errors of the bytes.
func TestInvalidLedger(t *testing.T) {
	x := pay("b", 0, 5, to("b", 1))
	for _, l := range []api.Ledger{
		of(account("", 50, 0)),
		of(account("A", 50, 0)),
		of(account("b", 50, 0), account("B", 1, 0)),
		of(account("b", 50, 0), account(strings.Repeat("b", 21), 1, 0)),
		of(account("b", 50, 0), account("b", 50, 0)),
		of(account("b", 50, 0), account("a", 50, 0)),
		of(account("a", 50, 0), account("c", 50, 0), account("b", 50, 0)),
		of(account("a", 1<<63, 0), account("b", 1<<63, 0)),
		{Accounts: []api.Account{account("b", 50, 0)}, Collected: top - 49},
		{Accounts: append([]api.Account{account("b", 50, 0)}, many(256)...)},
		{Accounts: append([]api.Account{account("b", 50, 0)}, many(1000)...)},
		{Accounts: append([]api.Account{account("b", 50, 0)}, make([]api.Account, 300)...), Collected: top},
	} {
		for _, raw := range [][]byte{encoding(x), nil, {0}, {10}, encoding(api.Tx{}), encoding(pay("zoe", 9, 0)), make([]byte, 4096), make([]byte, 4097), []byte("what is this")} {
			checkUnread(t, l, raw, api.ErrArgument)
		}
	}
}

// P13.1, P13.2: bytes that are no transaction, on ledgers that are valid.
func TestUnread(t *testing.T) {
	x := pay("ann", 0, 5, to("bob", 1))
	raw := encoding(x)
	for _, l := range []api.Ledger{{}, of(account("ann", 50, 0)), {Accounts: many(256), Collected: 9}} {
		checkUnread(t, l, nil, api.ErrName)
		checkUnread(t, l, []byte{}, api.ErrName)
		checkUnread(t, l, make([]byte, 4097), api.ErrLimit)
		checkUnread(t, l, append(slices.Clone(raw), make([]byte, 5000)...), api.ErrLimit)
		checkUnread(t, l, make([]byte, 4096), api.ErrEncoding)
		for n := 1; n < len(raw); n++ {
			_, e := tx.Decode(raw[:n])
			if e == api.OK {
				t.Errorf("the first %d bytes are a transaction", n)
			}
			checkUnread(t, l, raw[:n], e)
		}
		checkUnread(t, l, append(slices.Clone(raw), raw...), api.ErrEncoding)
		checkUnread(t, l, append(slices.Clone(raw), 0), api.ErrEncoding)
		checkUnread(t, l, []byte("what is this"), api.ErrEncoding)
	}
}

// P13.1: transactions of many sizes, with the exact gas, fee and balance, and with one less of each.
func TestExact(t *testing.T) {
	for n := 1; n <= 16; n++ {
		for _, memo := range []string{"", "m", strings.Repeat("m", 19), strings.Repeat("m", 64), strings.Repeat("é", 64), strings.Repeat("\U0001F600", 64)} {
			for _, price := range []uint64{0, 1, 3, 1000, 1 << 40} {
				x := api.Tx{Sender: "ann", Sequence: 1, Fee: 1 << 62, Memo: memo}
				for i := range n {
					x.Transfers = append(x.Transfers, to([]string{"bob", "ann", "a-new-one", "another-new-one"}[i%4], uint64(i)<<i|1))
				}
				// A fee with fewer bytes needs less gas, and so on.
				for x.Gas != used(x) {
					x = exact(x)
					x.Fee = x.Gas * price
				}
				l := api.Ledger{Accounts: []api.Account{account("ann", cost(x).Uint64(), 1), account("bob", 70, 5)}, Collected: 11}
				checkDone(t, l, price, x, effect(l, x))
				checkLess(t, l, price, x)
			}
		}
	}
}

// checkLess checks the errors of x with one less of the gas, the fee and the balance, all of which are exact on l, where the sender is the first account.
func checkLess(t *testing.T, l api.Ledger, price uint64, x api.Tx) {
	t.Helper()
	if x.Gas != used(x) {
		t.Errorf("the gas %d of %v is not exact", x.Gas, x)
	}
	poor := of(slices.Clone(l.Accounts)...)
	poor.Accounts[0].Balance--
	checkRefused(t, poor, price, x, api.ErrFunds)
	less := x
	less.Gas--
	checkRefused(t, l, price, less, api.ErrGas)
	if price > 0 {
		less = x
		less.Fee--
		checkRefused(t, l, price, less, api.ErrFee)
		checkRefused(t, l, price+1, x, api.ErrFee)
	}
	more := x
	more.Gas++
	if price == 0 {
		checkDone(t, l, price, more, effect(l, more))
	} else {
		checkRefused(t, l, price, more, api.ErrFee)
	}
}

// P13.1: the size is that of the bytes, and the largest transaction that can be carried out.
func TestLargest(t *testing.T) {
	long := func(c string) string { return strings.Repeat(c, 20) }
	x := api.Tx{Sender: long("s"), Sequence: top - 1, Fee: top / 32, Memo: strings.Repeat("\U0010FFFF", 64)}
	for i := range 16 {
		x.Transfers = append(x.Transfers, to(long(string(rune('a'+i))), top/32))
	}
	x = exact(x)
	l := of(account(long("s"), top, top-1))
	checkDone(t, l, 1, x, effect(l, x))
	x.Gas--
	checkRefused(t, l, 1, x, api.ErrGas)
	x.Gas = top
	checkDone(t, l, 0, x, effect(l, x))
	checkRefused(t, l, 1, x, api.ErrFee)
	checkRefused(t, l, 2, x, api.ErrOverflow)
}

// P13.1: products of gas and price at the limit.
func TestNeed(t *testing.T) {
	l := of(account("ann", top, 0))
	x := pay("ann", 0, top-1, to("bob", 1))
	for _, c := range []struct {
		gas, price uint64
		e          api.Errno
	}{
		{1 << 32, 1<<32 - 1, api.OK},
		{1 << 32, 1 << 32, api.ErrOverflow},
		{1 << 33, 1 << 31, api.ErrOverflow},
		{1<<32 - 1, 1<<32 + 1, api.ErrFee},
		{top, 1, api.ErrFee},
		{top - 1, 1, api.OK},
		{top, 0, api.OK},
		{top, top, api.ErrOverflow},
		{top, 2, api.ErrOverflow},
		{1 << 63, 2, api.ErrOverflow},
		{1 << 63, 1, api.OK},
		{1<<63 - 1, 2, api.OK},
		{1 << 16, 1<<48 - 1, api.OK},
		{1 << 16, 1 << 48, api.ErrOverflow},
		{1 << 16, 1<<48 + 1, api.ErrOverflow},
		{1 << 16, top, api.ErrOverflow},
		{3 * 5 * 17, 72340172838076673, api.ErrFee},
		{3 * 5 * 17, 72340172838076672, api.OK},
		{3 * 5 * 17, 72340172838076674, api.ErrOverflow},
	} {
		x.Gas = c.gas
		if c.e == api.OK {
			checkDone(t, l, c.price, x, api.Ledger{Accounts: []api.Account{account("ann", 0, 1), account("bob", 1, 0)}, Collected: top - 1})
		} else {
			checkRefused(t, l, c.price, x, c.e)
		}
	}
}

// P13.1: sums of the fee and the amounts at the limit, and such that would wrap around.
func TestSum(t *testing.T) {
	for _, c := range []struct {
		fee       uint64
		transfers []uint64
		e         api.Errno
	}{
		{0, []uint64{top}, api.OK},
		{top - 1, []uint64{1}, api.OK},
		{1, []uint64{top - 1}, api.OK},
		{1, []uint64{top - 2, 1}, api.OK},
		{1, []uint64{1, top - 2}, api.OK},
		{1 << 63, []uint64{1<<63 - 1}, api.OK},
		{1 << 62, []uint64{1 << 62, 1 << 62, 1<<62 - 1}, api.OK},
		{top, []uint64{1}, api.ErrOverflow},
		{1, []uint64{top}, api.ErrOverflow},
		{1 << 63, []uint64{1 << 63}, api.ErrOverflow},
		{0, []uint64{top, 1}, api.ErrOverflow},
		{0, []uint64{1, top}, api.ErrOverflow},
		{0, []uint64{1 << 63, 1 << 63}, api.ErrOverflow},
		{0, []uint64{1 << 63, 1 << 63, 1}, api.ErrOverflow},
		{1, []uint64{1 << 63, 1 << 63, 1}, api.ErrOverflow},
		{top, []uint64{top, 2}, api.ErrOverflow},
		{top, []uint64{2, top}, api.ErrOverflow},
		{1 << 62, []uint64{1 << 62, 1 << 62, 1 << 62}, api.ErrOverflow},
		{1 << 62, []uint64{1 << 62, 1 << 62, 1 << 62, 5}, api.ErrOverflow},
		{0, slices.Repeat([]uint64{1 << 60}, 16), api.ErrOverflow},
		{0, append(slices.Repeat([]uint64{1 << 60}, 15), 1<<60-1), api.OK},
		{5, slices.Repeat([]uint64{top}, 16), api.ErrOverflow},
	} {
		for _, names := range [][]string{{"bob"}, {"ann"}, {"ann", "bob"}, {"bob", "zoe", "a"}} {
			x := pay("ann", 0, c.fee)
			for i, n := range c.transfers {
				x.Transfers = append(x.Transfers, to(names[i%len(names)], n))
			}
			for _, balance := range []uint64{top, top - 1, 100, 5, 0} {
				l := of(account("ann", balance, 0), account("bob", 0, 3))
				switch {
				case c.e != api.OK:
					checkRefused(t, l, 0, x, c.e)
				case balance < top:
					checkRefused(t, l, 0, x, api.ErrFunds)
				default:
					checkDone(t, l, 0, x, effect(l, x))
				}
			}
		}
	}
}

// P13.1: sequences, up to the greatest one.
func TestSequence(t *testing.T) {
	sequences := []uint64{0, 1, 2, 127, 128, 1<<32 - 1, 1 << 32, 1<<63 - 1, 1 << 63, top - 2, top - 1, top}
	for _, is := range sequences {
		for _, sequence := range sequences {
			l := of(account("ann", 50, is), account("bob", 1, sequence))
			x := pay("ann", sequence, 1, to("bob", 1))
			switch {
			case sequence != is:
				checkRefused(t, l, 0, x, api.ErrSequence)
			case sequence == top:
				checkRefused(t, l, 0, x, api.ErrOverflow)
			default:
				checkDone(t, l, 0, x, api.Ledger{Accounts: []api.Account{account("ann", 48, is+1), account("bob", 2, sequence)}, Collected: 1})
			}
		}
	}
	// The greatest sequence of others does not matter.
	l := of(account("ann", 50, top), account("bob", 5, 0))
	checkDone(t, l, 0, pay("bob", 0, 1, to("ann", 1)), api.Ledger{Accounts: []api.Account{account("ann", 51, top), account("bob", 3, 1)}, Collected: 1})
}

// P13.1: ledgers of MaxAccounts accounts, and almost as many.
func TestFullLedger(t *testing.T) {
	for _, n := range []int{253, 254, 255, 256} {
		l := api.Ledger{Accounts: many(n), Collected: 8}
		for _, i := range []int{0, 1, 100, n - 2, n - 1} {
			x := pay(l.Accounts[i].Name, l.Accounts[i].Sequence, 7)
			add := func(names ...string) {
				t.Helper()
				next := x
				fresh := map[string]bool{}
				for j, name := range names {
					next.Transfers = append(next.Transfers, to(name, uint64(j+1)))
					if _, known := book(l)[name]; !known {
						fresh[name] = true
					}
				}
				if n+len(fresh) > 256 {
					checkRefused(t, l, 1, withFee(next), api.ErrFunds)
					checkRefused(t, l, 0, next, api.ErrLimit)
				} else {
					checkDone(t, l, 0, next, effect(l, next))
				}
			}
			first, last, self := l.Accounts[0].Name, l.Accounts[n-1].Name, x.Sender
			add(first)
			add(last)
			add(self)
			add(first, self, last, first)
			for _, name := range []string{"a", between(0), between(100), between(n - 1), "z"} {
				add(name)
				add(name, name)
				add(name, self, name)
				add(first, name, last)
				add(last, first, self, name)
				add(name, "new-a")
				add(name, "new-a", name, "new-a")
				add("new-a", name, "new-b")
				add("new-a", "new-b", name, "new-c")
				add(name, "new-a", "new-b", self, last, "new-c")
			}
		}
	}
}

// withFee returns x with a fee that is enough for the price 1, and more than any account of many has.
func withFee(x api.Tx) api.Tx {
	x.Fee = x.Gas
	return x
}

// P13.1: a new account comes to its place, with the sequence 0.
func TestNewAccounts(t *testing.T) {
	l := of(many(20)...)
	for i, a := range l.Accounts {
		for j := range l.Accounts {
			x := pay(a.Name, a.Sequence, 3, to(between(j), 4))
			want := of(slices.Insert(slices.Clone(l.Accounts), j+1, account(between(j), 4, 0))...)
			k := i
			if i > j {
				k++
			}
			want.Accounts[k].Balance -= 7
			want.Accounts[k].Sequence++
			want.Collected = 3
			checkDone(t, l, 0, x, want)
		}
		x := pay(a.Name, a.Sequence, 0, to("a", 1), to("b", 2), to("a", 3))
		want := of(append([]api.Account{account("a", 4, 0), account("b", 2, 0)}, l.Accounts...)...)
		want.Accounts[i+2].Balance -= 6
		want.Accounts[i+2].Sequence++
		checkDone(t, l, 0, x, want)
	}
}

// P13.2: what is known about a transaction, for every Code.
func TestResults(t *testing.T) {
	ann := of(account("ann", 1000000, 5))
	full := of(append([]api.Account{account("ann", 1000000, 5)}, many(255)...)...)
	last := of(account("ann", 1000000, top))
	for _, x := range []struct {
		l             api.Ledger
		price         uint64
		sequence, gas uint64
		fee, amount   uint64
		want          api.Result
	}{
		{ann, 1, 5, 200, 300, 1, api.Result{Code: api.OK, Sender: "ann", Sequence: 5, Gas: 200, Priority: 1500}},
		{ann, 0, 5, 200, 0, 1, api.Result{Code: api.OK, Sender: "ann", Sequence: 5, Gas: 200, Priority: 0}},
		{ann, 1, 5, 999, 1000, 1, api.Result{Code: api.OK, Sender: "ann", Sequence: 5, Gas: 999, Priority: 1001}},
		{ann, 0, 5, top, 1000, 1, api.Result{Code: api.OK, Sender: "ann", Sequence: 5, Gas: top, Priority: 0}},
		{ann, 0, 5, 1000000, 999999, 1, api.Result{Code: api.OK, Sender: "ann", Sequence: 5, Gas: 1000000, Priority: 999}},
		{of(), 1, 0, 200, 300, 1, api.Result{Code: api.ErrSender, Sender: "ann", Sequence: 0, Gas: 200, Priority: 1500}},
		{of(), 1, 77, 2, 3, 1, api.Result{Code: api.ErrSender, Sender: "ann", Sequence: 77, Gas: 2, Priority: 1500}},
		{ann, 1, 6, 200, 100, 1, api.Result{Code: api.ErrSequence, Sender: "ann", Sequence: 6, Gas: 200, Priority: 500}},
		{ann, 1, 4, 1, 0, 1, api.Result{Code: api.ErrSequence, Sender: "ann", Sequence: 4, Gas: 1, Priority: 0}},
		{last, 1, top, 200, 300, 1, api.Result{Code: api.ErrOverflow, Sender: "ann", Sequence: top, Gas: 200, Priority: 1500}},
		{ann, 1, 5, 1, 700, 1, api.Result{Code: api.ErrGas, Sender: "ann", Sequence: 5, Gas: 1, Priority: 700000}},
		{ann, 1, 5, 1, top, 1, api.Result{Code: api.ErrGas, Sender: "ann", Sequence: 5, Gas: 1, Priority: top}},
		{ann, top, 5, 200, 300, 1, api.Result{Code: api.ErrOverflow, Sender: "ann", Sequence: 5, Gas: 200, Priority: 1500}},
		{ann, 2, 5, 200, 399, 1, api.Result{Code: api.ErrFee, Sender: "ann", Sequence: 5, Gas: 200, Priority: 1995}},
		{ann, 1, 5, 200, 300, top, api.Result{Code: api.ErrOverflow, Sender: "ann", Sequence: 5, Gas: 200, Priority: 1500}},
		{ann, 1, 5, 200, top, 1, api.Result{Code: api.ErrOverflow, Sender: "ann", Sequence: 5, Gas: 200, Priority: top}},
		{ann, 1, 5, 200, 300, 1000000, api.Result{Code: api.ErrFunds, Sender: "ann", Sequence: 5, Gas: 200, Priority: 1500}},
		{full, 1, 5, 200, 300, 1, api.Result{Code: api.ErrLimit, Sender: "ann", Sequence: 5, Gas: 200, Priority: 1500}},
	} {
		raw := encoding(api.Tx{Sender: "ann", Sequence: x.sequence, Gas: x.gas, Fee: x.fee, Transfers: []api.Transfer{to("bob", x.amount)}})
		_, got := apply.Tx(x.l, x.price, raw)
		if got != x.want {
			t.Errorf("the result of Tx(%s, %d, %x) is %v; want %v", brief(x.l), x.price, raw, got, x.want)
		}
		checkDefined(t, x.l, x.price, raw)
	}
}

// P13.2: the priority of many fees and amounts of gas, whatever the Code is.
func TestPriority(t *testing.T) {
	numbers := []uint64{1, 2, 3, 100, 999, 1000, 1001, 1 << 32, top / 1000, top/1000 + 1, 1 << 63, top - 1, top}
	for _, fee := range append(numbers, 0) {
		for _, gas := range numbers {
			for _, l := range []api.Ledger{{}, of(account("ann", top, 0)), of(account("ann", 0, 0)), of(account("ann", top, 1))} {
				x := api.Tx{Sender: "ann", Gas: gas, Fee: fee, Transfers: []api.Transfer{to("bob", 1)}}
				_, r := checkDefined(t, l, 1, encoding(x))
				if r.Priority != priority(fee, gas) || r.Gas != gas {
					t.Errorf("%v has the result %v", x, r)
				}
			}
		}
	}
}

// lists returns all lists of at most n of the elements.
func lists[T any](elements []T, n int) [][]T {
	all, last := [][]T{nil}, [][]T{nil}
	for range n {
		var next [][]T
		for _, l := range last {
			for _, x := range elements {
				next = append(next, append(slices.Clone(l), x))
			}
		}
		all, last = append(all, next...), next
	}
	return all
}

// P13.1: all transactions with up to three of these transfers, on ledgers of all of these balances.
func TestByDefinition(t *testing.T) {
	var transfers []api.Transfer
	for _, name := range []string{"a", "b", "c"} {
		for _, amount := range []uint64{1, 3} {
			transfers = append(transfers, to(name, amount))
		}
	}
	done, refused := 0, 0
	for _, l := range lists(transfers, 3)[1:] {
		for _, fee := range []uint64{0, 2} {
			for _, balance := range []uint64{0, 1, 3, 5, 8, 9, 10, 11, 12} {
				for _, books := range []api.Ledger{of(account("b", balance, 0)), {Accounts: []api.Account{account("a", 4, 6), account("b", balance, 0)}, Collected: 7}, of(account("b", balance, 0), account("c", 4, 6))} {
					x := pay("b", 0, fee, l...)
					want, r := define(books, 0, encoding(x))
					if r.Code == api.OK {
						checkDone(t, books, 0, x, want)
						done++
					} else {
						checkRefused(t, books, 0, x, r.Code)
						refused++
					}
				}
			}
		}
	}
	if done < 2000 || refused < 2000 {
		t.Errorf("%d transactions were carried out, and %d refused", done, refused)
	}
}

// P13.1: bytes that differ from a transaction at any place.
func TestChangedBytes(t *testing.T) {
	l := of(account("ann", 270, 1), account("bob", 1000, 1))
	raw := encoding(api.Tx{Sender: "ann", Sequence: 1, Gas: 125, Fee: 250, Memo: "m", Transfers: []api.Transfer{to("bob", 7), to("cid", 9)}})
	codes := map[api.Errno]bool{}
	for i := range raw {
		for c := range 256 {
			b := slices.Clone(raw)
			b[i] = byte(c)
			_, r := checkDefined(t, l, 2, b)
			codes[r.Code] = true
		}
	}
	for _, e := range []api.Errno{api.OK, api.ErrEncoding, api.ErrName, api.ErrSender, api.ErrSequence, api.ErrGas, api.ErrFee, api.ErrFunds} {
		if !codes[e] {
			t.Errorf("no changed byte gives the Code %d", e)
		}
	}
}

// random returns a transaction that may well be one that l carries out.
func random(r *rand.Rand, l api.Ledger) api.Tx {
	a := l.Accounts[r.Intn(len(l.Accounts))]
	x := pay(a.Name, a.Sequence, uint64(r.Intn(30)))
	for range 1 + r.Intn(4) {
		x.Transfers = append(x.Transfers, to(fmt.Sprint("n", r.Intn(400)), 1+uint64(r.Intn(40))))
	}
	switch r.Intn(8) {
	case 0:
		x.Sequence++
	case 1:
		x.Transfers[0].To = a.Name
	case 2:
		x.Fee += a.Balance
	case 3:
		x.Transfers[0].Amount = max(a.Balance/2, 1)
	case 4:
		x.Gas = uint64(70 + r.Intn(100))
	case 5:
		x.Sender = fmt.Sprint("n", r.Intn(400))
	}
	return x
}

// P13.3: many transactions one after the other: the total stays, ledgers stay valid, and what was carried out never is again.
func TestOneAfterTheOther(t *testing.T) {
	for seed := range 3 {
		r := rand.New(rand.NewSource(int64(seed)))
		l := api.Ledger{Collected: []uint64{0, 5, top - 300000}[seed]}
		for i := range 100 {
			l.Accounts = append(l.Accounts, account(fmt.Sprintf("a%02d", i), 3000, uint64(i)))
		}
		total, _ := ledger.Total(l)
		var done []api.Tx
		codes := map[api.Errno]int{}
		for range 700 {
			x := random(r, l)
			next, result := checkDefined(t, l, 0, encoding(x))
			codes[result.Code]++
			if result.Code == api.OK {
				done = append(done, x)
			}
			if n, ok := ledger.Total(next); n != total || !ok || ledger.Validate(next) != api.OK {
				t.Fatalf("behind %v the ledger %s has the total %d, or is not valid", x, brief(next), n)
			}
			l = next
			for range min(len(done), 3) {
				checkRefused(t, l, uint64(r.Intn(3)), done[r.Intn(len(done))], api.ErrSequence)
			}
		}
		for _, x := range done {
			checkRefused(t, l, 0, x, api.ErrSequence)
			checkRefused(t, l, top, x, api.ErrSequence)
		}
		for _, e := range []api.Errno{api.OK, api.ErrSequence, api.ErrFunds, api.ErrGas, api.ErrSender} {
			if codes[e] < 10 {
				t.Errorf("only %d transactions have the Code %d", codes[e], e)
			}
		}
	}
}

// P13.3: the transactions of one sender can be carried out in the order of their sequences only, each of them once.
func TestOrderOfSequences(t *testing.T) {
	l := of(account("ann", 100, 0), account("bob", 100, 0))
	var list []api.Tx
	for i := range uint64(12) {
		list = append(list, pay("ann", i, 1, to("bob", 2)))
	}
	for i, x := range list {
		for j, y := range list {
			if j != i {
				checkRefused(t, l, 0, y, api.ErrSequence)
			}
		}
		// What others do in between does not bring it back.
		next := checkDone(t, l, 0, x, effect(l, x))
		l = checkDone(t, next, 0, pay("bob", uint64(i), 0, to("ann", 1)), effect(next, pay("bob", uint64(i), 0, to("ann", 1))))
		for _, y := range list[:i+1] {
			checkRefused(t, l, 0, y, api.ErrSequence)
		}
	}
	want := api.Ledger{Accounts: []api.Account{account("ann", 76, 12), account("bob", 112, 12)}, Collected: 12}
	if !same(l, want) {
		t.Errorf("the ledger is %s; want %s", brief(l), brief(want))
	}
}

// P13.3: all money in the hands of one account, whose balance goes to and fro.
func TestAllTheMoney(t *testing.T) {
	l := of(account("ann", top, 0), account("bob", 0, 0))
	names := []string{"ann", "bob"}
	for i := range uint64(20) {
		from, other := names[i%2], names[1-i%2]
		rest, _ := ledger.Get(l, from)
		x := pay(from, i/2, 1, to(other, rest.Balance-1))
		l = checkDone(t, l, 0, x, effect(l, x))
		if a, _ := ledger.Get(l, other); a.Balance != top-1-i || l.Collected != i+1 {
			t.Errorf("behind %d transactions the ledger is %s", i+1, brief(l))
		}
	}
}

// R3: the same arguments give the same results again, whatever was called in between.
func TestAgain(t *testing.T) {
	l := of(account("ann", 100, 0), account("bob", 5, 0))
	for range 3 {
		checkDone(t, l, 0, pay("ann", 0, 1, to("bob", 2)), api.Ledger{Accounts: []api.Account{account("ann", 97, 1), account("bob", 7, 0)}, Collected: 1})
		checkRefused(t, l, 0, pay("bob", 0, 1, to("zoe", 5)), api.ErrFunds)
		checkUnread(t, l, []byte{1}, api.ErrEncoding)
		checkUnread(t, of(account("A", 1, 1)), nil, api.ErrArgument)
		checkDone(t, l, 0, pay("bob", 0, 1, to("zoe", 4)), api.Ledger{Accounts: []api.Account{account("ann", 100, 0), account("bob", 0, 1), account("zoe", 4, 0)}, Collected: 1})
	}
}

// R2: results share memory with no argument and with no other result, whatever the Code is.
func TestResultsApart(t *testing.T) {
	good, bad := of(account("ann", 100, 0), account("bob", 5, 0)), of(account("bob", 5, 0), account("ann", 100, 0))
	accounts, wrong := slices.Clone(good.Accounts), slices.Clone(bad.Accounts)
	var results []api.Ledger
	for _, raw := range [][]byte{nil, encoding(pay("ann", 0, 1, to("bob", 2))), encoding(pay("ann", 0, 1, to("ann", 2))), encoding(pay("ann", 1, 1, to("bob", 2))), encoding(pay("zoe", 1, 1, to("bob", 2))), encoding(pay("bob", 0, 1, to("cid", 9)))} {
		for _, l := range []api.Ledger{good, bad} {
			for range 2 {
				next, _ := apply.Tx(l, 0, raw)
				results = append(results, next)
			}
		}
	}
	for i, l := range results {
		var before [][]api.Account
		for _, m := range results {
			before = append(before, slices.Clone(m.Accounts))
		}
		overwrite(l.Accounts)
		for j, m := range results {
			if j != i && !slices.Equal(m.Accounts, before[j]) {
				t.Errorf("the results %d and %d share memory", i, j)
			}
		}
	}
	if !slices.Equal(good.Accounts, accounts) || !slices.Equal(bad.Accounts, wrong) {
		t.Errorf("a result shares memory with an argument")
	}
}
