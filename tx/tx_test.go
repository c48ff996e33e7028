package tx_test

import (
	"bytes"
	"encoding/binary"
	"math"
	"math/rand"
	"regexp"
	"slices"
	"strings"
	"testing"
	"unicode/utf8"

	"mempool/api"
	"mempool/tx"
)

const top = math.MaxUint64

// join returns all parts one behind the other.
func join(parts ...[]byte) []byte {
	return slices.Concat(parts...)
}

// number returns the bytes of a field with a value, which may be 0.
func number(n int, value uint64) []byte {
	return binary.AppendUvarint(binary.AppendUvarint(nil, 8*uint64(n)), value)
}

// text returns the bytes of a field with bytes, which may be none.
func text[T string | []byte](n int, s T) []byte {
	b := binary.AppendUvarint(binary.AppendUvarint(nil, 8*uint64(n)+2), uint64(len(s)))
	return append(b, s...)
}

// long returns n bytes that are a name if there are not too many of them.
func long(n int) string {
	return strings.Repeat("z", n)
}

// numberOrNone returns the bytes of a field that is left out if its value is 0.
func numberOrNone(n int, value uint64) []byte {
	if value == 0 {
		return nil
	}
	return number(n, value)
}

// textOrNone returns the bytes of a field that is left out if it is empty.
func textOrNone(n int, s string) []byte {
	if s == "" {
		return nil
	}
	return text(n, s)
}

// encoding says what the chapter says of the encoding of a transaction, valid or not.
func encoding(t api.Tx) []byte {
	b := join(textOrNone(1, t.Sender), numberOrNone(2, t.Sequence), numberOrNone(3, t.Gas), numberOrNone(4, t.Fee), textOrNone(5, t.Memo))
	for _, x := range t.Transfers {
		b = append(b, text(6, join(textOrNone(1, x.To), numberOrNone(2, x.Amount)))...)
	}
	return b
}

var nameForm = regexp.MustCompile(`\A[a-z0-9-]{1,20}\z`)

// isMemo says what the chapter says of IsMemo.
func isMemo(s string) bool {
	return utf8.ValidString(s) && utf8.RuneCountInString(s) <= 64
}

// judge says what the chapter says of Validate.
func judge(t api.Tx) api.Errno {
	var l []api.Errno
	find := func(wrong bool, e api.Errno) {
		if wrong {
			l = append(l, e)
		}
	}
	find(!nameForm.MatchString(t.Sender), api.ErrName)
	find(t.Gas == 0, api.ErrGas)
	find(!isMemo(t.Memo), api.ErrMemo)
	find(len(t.Transfers) == 0 || len(t.Transfers) > 16, api.ErrLimit)
	for _, x := range t.Transfers {
		find(!nameForm.MatchString(x.To), api.ErrName)
		find(x.Amount == 0, api.ErrAmount)
	}
	return append(l, api.OK)[0]
}

// part is a field as package binary reads it.
type part struct {
	number, value uint64
	bytes         []byte
}

// parts returns what looks like the fields of a message, whatever their order and the lengths of their numbers.
func parts(b []byte) (l []part, ok bool) {
	for len(b) > 0 {
		tag, n := binary.Uvarint(b)
		if n <= 0 {
			return nil, false
		}
		v, m := binary.Uvarint(b[n:])
		if m <= 0 {
			return nil, false
		}
		b = b[n+m:]
		p := part{number: tag / 8, value: v}
		if tag%8 == 2 {
			if v > uint64(len(b)) {
				return nil, false
			}
			p.value, p.bytes, b = 0, b[:v], b[v:]
		}
		l = append(l, p)
	}
	return l, true
}

// guess returns the only transaction of which b could be the encoding.
func guess(b []byte) (t api.Tx, ok bool) {
	l, ok := parts(b)
	if !ok || len(l) > 1024 {
		return api.Tx{}, false
	}
	for _, p := range l {
		switch p.number {
		case 1:
			t.Sender = string(p.bytes)
		case 2:
			t.Sequence = p.value
		case 3:
			t.Gas = p.value
		case 4:
			t.Fee = p.value
		case 5:
			t.Memo = string(p.bytes)
		case 6:
			inner, ok := parts(p.bytes)
			if !ok {
				return api.Tx{}, false
			}
			var x api.Transfer
			for _, q := range inner {
				switch q.number {
				case 1:
					x.To = string(q.bytes)
				case 2:
					x.Amount = q.value
				}
			}
			t.Transfers = append(t.Transfers, x)
		}
	}
	return t, true
}

// decode says what the chapter says of Decode: raw is the encoding of a transaction just if it is that of the guess.
func decode(raw []byte) (api.Tx, api.Errno) {
	if len(raw) > 4096 {
		return api.Tx{}, api.ErrLimit
	}
	t, ok := guess(raw)
	if !ok || !bytes.Equal(encoding(t), raw) {
		return api.Tx{}, api.ErrEncoding
	}
	if e := judge(t); e != api.OK {
		return api.Tx{}, e
	}
	return t, api.OK
}

func same(a, b api.Tx) bool {
	return a.Sender == b.Sender && a.Sequence == b.Sequence && a.Gas == b.Gas && a.Fee == b.Fee && a.Memo == b.Memo && slices.Equal(a.Transfers, b.Transfers)
}

// brief returns the beginning of b, for reports.
func brief(b []byte) []byte {
	return b[:min(len(b), 60)]
}

// checkDecode checks that Decode of raw returns want, or no transaction and e, and that Encode of it gives raw again.
func checkDecode(t *testing.T, raw []byte, want api.Tx, e api.Errno) {
	t.Helper()
	before := bytes.Clone(raw)
	got, f := tx.Decode(raw)
	if f != e || !same(got, want) {
		t.Errorf("Decode(%d) = %v, %d; want %v, %d", brief(raw), got, f, want, e)
	}
	if !bytes.Equal(raw, before) {
		t.Errorf("Decode has changed its argument %d", brief(before))
	}
	if f != api.OK {
		return
	}
	if again, f := tx.Encode(got); f != api.OK || !bytes.Equal(again, raw) {
		t.Errorf("Encode(Decode(%d)) = %d, %d", brief(raw), brief(again), f)
	}
}

// checkError checks that Decode of raw returns e and no transaction.
func checkError(t *testing.T, raw []byte, e api.Errno) {
	t.Helper()
	checkDecode(t, raw, api.Tx{}, e)
}

// checkDefined checks Decode of raw against decode, and returns the error.
func checkDefined(t *testing.T, raw []byte) api.Errno {
	t.Helper()
	want, e := decode(raw)
	checkDecode(t, raw, want, e)
	return e
}

// checkTx checks Validate and Encode of x, and Decode of its encoding; b is the encoding, and e what makes x invalid, or OK.
func checkTx(t *testing.T, x api.Tx, b []byte, e api.Errno) {
	t.Helper()
	before := x
	before.Transfers = slices.Clone(x.Transfers)
	if f := tx.Validate(x); f != e {
		t.Errorf("Validate(%v) = %d; want %d", x, f, e)
	}
	want := b
	if e != api.OK {
		want = nil
	}
	if got, f := tx.Encode(x); f != e || !bytes.Equal(got, want) {
		t.Errorf("Encode(%v) = %d, %d; want %d, %d", x, got, f, want, e)
	}
	if !same(x, before) {
		t.Errorf("Validate or Encode has changed its argument %v to %v", before, x)
	}
	if e != api.OK {
		checkError(t, b, e)
	} else {
		checkDecode(t, b, x, api.OK)
	}
}

// simple returns a transaction with two transfers and the fields that may not be 0 or empty.
func simple() api.Tx {
	return api.Tx{Sender: "ann", Gas: 200, Transfers: []api.Transfer{{To: "bob", Amount: 5}, {To: "c", Amount: 300}}}
}

// full returns a transaction with all fields.
func full() api.Tx {
	x := simple()
	x.Sequence, x.Fee, x.Memo = 7, 300, "é"
	return x
}

// pieces lists the written-out fields of full, in order.
func pieces() [][]byte {
	return [][]byte{{10, 3, 'a', 'n', 'n'}, {16, 7}, {24, 200, 1}, {32, 172, 2}, {42, 2, 0xc3, 0xa9}, {50, 7, 10, 3, 'b', 'o', 'b', 16, 5}, {50, 6, 10, 1, 'c', 16, 172, 2}}
}

// largest returns a transaction of which each part is as large as it may be.
func largest() api.Tx {
	return api.Tx{Sender: long(20), Sequence: top, Gas: top, Fee: top, Memo: strings.Repeat("\U0010ffff", 64), Transfers: slices.Repeat([]api.Transfer{{To: long(20), Amount: top}}, 16)}
}

// samples lists valid transactions.
func samples() []api.Tx {
	l := []api.Tx{simple(), full(), largest()}
	for _, n := range []uint64{1, 127, 128, 300, 1<<14 - 1, 1 << 14, 1 << 32, 1<<63 - 1, 1 << 63, top} {
		l = append(l, api.Tx{Sender: "a", Sequence: n, Gas: n, Fee: n, Transfers: []api.Transfer{{To: "a", Amount: n}}})
	}
	for _, s := range []string{"\x00", "memo", "é\n", "\ufffd", long(64), strings.Repeat("é", 63) + "x", strings.Repeat("€", 64)} {
		l = append(l, api.Tx{Sender: "-", Gas: 1, Memo: s, Transfers: []api.Transfer{{To: "0", Amount: 1}}})
	}
	return l
}

// fault makes a transaction with at least two transfers invalid.
type fault struct {
	e      api.Errno
	place  int // in the order of the chapter
	change func(x *api.Tx)
}

func sender(s string) func(x *api.Tx) {
	return func(x *api.Tx) { x.Sender = s }
}

func memo(s string) func(x *api.Tx) {
	return func(x *api.Tx) { x.Memo = s }
}

func to(i int, s string) func(x *api.Tx) {
	return func(x *api.Tx) {
		if i < len(x.Transfers) {
			x.Transfers[i].To = s
		}
	}
}

func free(i int) func(x *api.Tx) {
	return func(x *api.Tx) {
		if i < len(x.Transfers) {
			x.Transfers[i].Amount = 0
		}
	}
}

// transfers changes the number of transfers: the first ones are kept, and the last one is repeated.
func transfers(n int) func(x *api.Tx) {
	return func(x *api.Tx) {
		for len(x.Transfers) < n {
			x.Transfers = append(x.Transfers, x.Transfers[len(x.Transfers)-1])
		}
		x.Transfers = x.Transfers[:n]
	}
}

// faults lists one of each kind, and more of some.
func faults() []fault {
	return []fault{
		{api.ErrName, 0, sender("")}, {api.ErrName, 0, sender("A")}, {api.ErrName, 0, sender(long(21))}, {api.ErrName, 0, sender("a\xff")},
		{api.ErrGas, 1, func(x *api.Tx) { x.Gas = 0 }},
		{api.ErrMemo, 2, memo("\xff")}, {api.ErrMemo, 2, memo(long(65))}, {api.ErrMemo, 2, memo(strings.Repeat("é", 65))}, {api.ErrMemo, 2, memo("a\xc3")},
		{api.ErrLimit, 3, transfers(0)}, {api.ErrLimit, 3, transfers(17)}, {api.ErrLimit, 3, transfers(40)},
		{api.ErrName, 4, to(0, "")}, {api.ErrName, 4, to(0, "B")}, {api.ErrName, 4, to(0, long(21))},
		{api.ErrAmount, 5, free(0)},
		{api.ErrName, 6, to(1, "")}, {api.ErrName, 6, to(1, "x y")}, {api.ErrName, 6, to(1, "\u212a")},
		{api.ErrAmount, 7, free(1)},
	}
}

// Examples 1 to 3 of the chapter.
func TestExamples(t *testing.T) {
	x := simple()
	x.Memo = "é"
	if len(x.Memo) != 2 || !tx.IsMemo(x.Memo) || !tx.IsMemo(strings.Repeat(x.Memo, 64)) || tx.IsMemo(strings.Repeat(x.Memo, 65)) {
		t.Error("IsMemo does not count é as one rune")
	}
	p := pieces()
	checkTx(t, x, join(p[0], p[2], p[4], p[5], p[6]), api.OK)
	x = full()
	x.Sequence = 0
	checkTx(t, x, join(p[0], p[2], p[3], p[4], p[5], p[6]), api.OK)
	checkError(t, join(p[0], []byte{16, 0}, p[2], p[3], p[4], p[5], p[6]), api.ErrEncoding)
	for _, none := range [][]api.Transfer{nil, {}} {
		x = full()
		x.Transfers = none
		checkTx(t, x, join(p[0], p[1], p[2], p[3], p[4]), api.ErrLimit)
	}
}

// P10.1: the number of bytes of a name.
func TestIsNameLength(t *testing.T) {
	for _, c := range []string{"a", "m", "z", "0", "9", "-"} {
		for n := range 50 {
			if got := tx.IsName(strings.Repeat(c, n)); got != (n >= 1 && n <= api.MaxName) {
				t.Errorf("IsName of %d times %s = %v", n, c, got)
			}
		}
	}
	for _, n := range []int{256, 257, 276, 1 << 16, 1<<16 + 1, 1 << 24} {
		if tx.IsName(long(n)) {
			t.Errorf("%d bytes are a name", n)
		}
	}
}

// P10.1: each byte at each place of a name.
func TestIsNameBytes(t *testing.T) {
	const allowed = "abcdefghijklmnopqrstuvwxyz0123456789-"
	for _, rest := range []string{"a", "-b", "9-z", long(10), long(19)} {
		for place := range len(rest) + 1 {
			for c := range 256 {
				b := []byte{byte(c)}
				want := bytes.Contains([]byte(allowed), b)
				for _, s := range []string{string(b), rest[:place] + string(b) + rest[place:]} {
					if got := tx.IsName(s); got != want {
						t.Errorf("IsName(%q) = %v", s, got)
					}
				}
			}
		}
	}
}

// P10.1: runes of several bytes are in no name.
func TestIsNameRunes(t *testing.T) {
	for r := rune(128); r <= utf8.MaxRune; r++ {
		if tx.IsName(string(r)) || r%61 == 0 && tx.IsName("a"+string(r)+"a") {
			t.Errorf("IsName of the rune %x", r)
		}
	}
}

// edges lists runes of one to four bytes: the first, the last and others of each length.
func edges() []string {
	return []string{"\x00", "\t", "\n", " ", "a", "\x7f", "\u0080", "é", "\u0301", "\u07ff", "\u0800", "€", "\ud7ff", "\ue000", "\ufeff", "\ufffc", "\ufffd", "\ufffe", "\uffff", "\U00010000", "\U0001f600", "\U0010ffff"}
}

// P10.1: the number of runes of a memo.
func TestIsMemoLength(t *testing.T) {
	if !tx.IsMemo("") {
		t.Error("the empty string is no memo")
	}
	for _, r := range edges() {
		for _, n := range []int{1, 2, 15, 16, 17, 21, 22, 31, 32, 33, 63, 64, 65, 66, 127, 128, 129, 256, 257, 300, 1000, 1 << 16} {
			if got := tx.IsMemo(strings.Repeat(r, n)); got != (n <= api.MaxMemo) {
				t.Errorf("IsMemo of %d times %q = %v", n, r, got)
			}
		}
		for _, s := range edges() {
			for n := range 70 {
				if got := tx.IsMemo(strings.Repeat(r, n) + s); got != (n < api.MaxMemo) {
					t.Errorf("IsMemo of %d times %q and %q = %v", n, r, s, got)
				}
			}
		}
	}
}

// notUTF8 lists bytes that are not UTF-8.
func notUTF8() []string {
	return []string{
		// A byte alone.
		"\x80", "\xbf", "\xc0", "\xc1", "\xc2", "\xdf", "\xe0", "\xed", "\xef", "\xf0", "\xf4", "\xf5", "\xf7", "\xf8", "\xfc", "\xfe", "\xff",
		"\x80\x80", "\xbd\xbf", "\xff\xfe",
		// A rune that is cut off, or goes on too long.
		"\xc3a", "\xe2\x82", "\xe2a", "\xe2\x82a", "\xf0\x9f", "\xf0\x9f\x98", "\xf0\x9f\x98a", "\xef\xbf", "\xef\xbfa", "\xe2\xc3\xa9", "\xf0\x9f\xc3\xa9", "é\x80", "€\x80", "\U0001f600\x80",
		// A rune that could be shorter.
		"\xc0\x80", "\xc0\xaf", "\xc1\xbf", "\xe0\x80\x80", "\xe0\x9f\xbf", "\xf0\x80\x80\x80", "\xf0\x8f\xbf\xbf", "\xf0\x8f\xbf\xbd", "\xf8\x88\x80\x80\x80",
		// A surrogate, and two.
		"\xed\xa0\x80", "\xed\xaf\xbf", "\xed\xb0\x80", "\xed\xbf\xbf", "\xed\xa0\xbd\xed\xb8\x80",
		// Above U+10FFFF.
		"\xf4\x90\x80\x80", "\xf4\xbf\xbf\xbf", "\xf5\x80\x80\x80", "\xf7\xbf\xbf\xbf", "\xfc\x84\x80\x80\x80\x80",
	}
}

// P10.1: a memo is UTF-8.
func TestIsMemoNotUTF8(t *testing.T) {
	for _, bad := range notUTF8() {
		if utf8.ValidString(bad) {
			t.Fatalf("%q is UTF-8", bad)
		}
		for _, s := range append(edges(), "", "\ufffd\ufffd", "ab", strings.Repeat("é", 20), strings.Repeat("\ufffd", 40)) {
			for _, memo := range []string{bad, s + bad, bad + s, s + bad + s, bad + s + bad, s + bad + bad} {
				// A piece that is not UTF-8 can only become UTF-8 with a continuation behind it, and no edge is one.
				if tx.IsMemo(memo) {
					t.Errorf("%q is a memo", memo)
				}
			}
		}
		for n := 58; n < 66; n++ {
			if tx.IsMemo(long(n)+bad) || tx.IsMemo(bad+long(n)) {
				t.Errorf("%q beside %d letters is a memo", bad, n)
			}
		}
	}
	for _, s := range []string{"\ufffd", "\ufffd\ufffd", "a\ufffd", "\ufffda", "é\ufffd€", strings.Repeat("\ufffd", 64)} {
		if !tx.IsMemo(s) {
			t.Errorf("%q is no memo", s)
		}
	}
}

// P10.1: all short strings, the longer ones of bytes at which UTF-8 decides.
func TestIsMemoByDefinition(t *testing.T) {
	all := make([]byte, 256)
	for i := range all {
		all[i] = byte(i)
	}
	critical := []byte{0, 'a', 0x7f, 0x80, 0x8f, 0x90, 0x9f, 0xa0, 0xbd, 0xbf, 0xc0, 0xc2, 0xdf, 0xe0, 0xe1, 0xed, 0xef, 0xf0, 0xf1, 0xf4, 0xf5, 0xff}
	for length, letters := range [][]byte{nil, all, all, critical, critical} {
		for _, word := range words(letters, length) {
			if got := tx.IsMemo(string(word)); got != isMemo(string(word)) {
				t.Fatalf("IsMemo(%q) = %v", word, got)
			}
		}
	}
}

// words returns all words of n letters.
func words(letters []byte, n int) [][]byte {
	l := [][]byte{{}}
	for range n {
		var next [][]byte
		for _, w := range l {
			for _, c := range letters {
				next = append(next, append(bytes.Clone(w), c))
			}
		}
		l = next
	}
	return l
}

// P10.1, P10.2, P10.3: each error alone.
func TestFault(t *testing.T) {
	for _, f := range faults() {
		for _, x := range []api.Tx{simple(), full(), largest()} {
			f.change(&x)
			checkTx(t, x, encoding(x), f.e)
		}
	}
}

// P10.1, P10.2, P10.3: of two and more errors, the first one is returned.
func TestFirstFault(t *testing.T) {
	l := faults()
	for _, f := range l {
		for _, g := range l {
			if f.place < g.place {
				for _, x := range []api.Tx{simple(), full(), largest()} {
					// The later one is made first, because there may be no transfers behind the earlier one.
					g.change(&x)
					f.change(&x)
					checkTx(t, x, encoding(x), f.e)
				}
			}
		}
	}
	// All sets of faults at different places.
	l = slices.CompactFunc(l, func(f, g fault) bool { return f.place == g.place })
	for set := range 1 << len(l) {
		x, e := full(), api.OK
		for i := len(l) - 1; i >= 0; i-- {
			if set>>i&1 == 1 {
				l[i].change(&x)
				e = l[i].e
			}
		}
		checkTx(t, x, encoding(x), e)
	}
}

// P10.1: the number of transfers.
func TestTransfers(t *testing.T) {
	for _, n := range []int{0, 1, 2, 3, 8, 15, 16, 17, 18, 31, 32, 33, 64, 200} {
		x, e := full(), api.OK
		transfers(n)(&x)
		if n < 1 || n > api.MaxTransfers {
			e = api.ErrLimit
		}
		checkTx(t, x, encoding(x), e)
	}
	// More of them than a transaction has bytes, or a message has fields, are no other error of Validate.
	for _, n := range []int{256, 257, 1024, 5000, 1<<16 + 1} {
		x := api.Tx{Sender: "a", Gas: 1, Transfers: make([]api.Transfer, n)}
		if e := tx.Validate(x); e != api.ErrLimit {
			t.Errorf("Validate with %d transfers = %d", n, e)
		}
		if b, e := tx.Encode(x); len(b) != 0 || e != api.ErrLimit {
			t.Errorf("Encode with %d transfers = %d bytes, %d", n, len(b), e)
		}
	}
}

// P10.1: errors in the transfers, also in two of them: all of one transfer's come before the next one's.
func TestTransferFaults(t *testing.T) {
	for i := range 16 {
		for j := range 16 {
			for _, kinds := range []string{"nn", "na", "an", "aa"} {
				x := full()
				transfers(16)(&x)
				for k, at := range []int{i, j} {
					if kinds[k] == 'n' {
						x.Transfers[at].To = "No"
					} else {
						x.Transfers[at].Amount = 0
					}
				}
				e := api.ErrAmount
				if i == j && kinds != "aa" || i < j && kinds[0] == 'n' || j < i && kinds[1] == 'n' {
					e = api.ErrName
				}
				checkTx(t, x, encoding(x), e)
			}
		}
	}
}

// P10.1: a name of a transfer, and that of a sender, is what IsName says; the memo is what IsMemo says.
func TestPartsOfValidate(t *testing.T) {
	l := append(append(edges(), notUTF8()...), "", "a", "-", "0z-", "a b", "a.b", "a_b", "Ann", long(19), long(20), long(21), strings.Repeat("é", 10), strings.Repeat("é", 64), long(64), long(65))
	for _, s := range l {
		for place := range 3 {
			x, e := full(), api.ErrName
			switch {
			case place == 0:
				x.Sender = s
			case place == 1:
				x.Transfers[1].To = s
			default:
				x.Memo, e = s, api.ErrMemo
			}
			if place < 2 && nameForm.MatchString(s) || place == 2 && isMemo(s) {
				e = api.OK
			}
			checkTx(t, x, encoding(x), e)
		}
	}
}

// P10.2: written-out bytes, with every combination of the fields that may be 0 or empty, and of those that may not be.
func TestEncode(t *testing.T) {
	for set := range 1 << 9 {
		has := func(i int) bool { return set>>i&1 == 1 }
		x, p, e := full(), pieces(), api.OK
		if !has(6) {
			x.Transfers, p = x.Transfers[:1], p[:6]
		}
		// The last transfer loses its fields.
		last := len(x.Transfers) - 1
		switch {
		case !has(7) && !has(8):
			x.Transfers[last], p[last+5], e = api.Transfer{}, []byte{50, 0}, api.ErrName
		case !has(7):
			x.Transfers[last], p[last+5], e = api.Transfer{Amount: 6}, []byte{50, 2, 16, 6}, api.ErrName
		case !has(8):
			x.Transfers[last], p[last+5], e = api.Transfer{To: "d"}, []byte{50, 3, 10, 1, 'd'}, api.ErrAmount
		}
		if !has(5) {
			x.Transfers, p, e = nil, p[:5], api.ErrLimit
		}
		if !has(4) {
			x.Memo, p[4] = "", nil
		}
		if !has(3) {
			x.Fee, p[3] = 0, nil
		}
		if !has(1) {
			x.Sequence, p[1] = 0, nil
		}
		if !has(2) {
			x.Gas, p[2], e = 0, nil, api.ErrGas
		}
		if !has(0) {
			x.Sender, p[0], e = "", nil, api.ErrName
		}
		checkTx(t, x, join(p...), e)
	}
}

// P10.2: the greatest numbers, and those with one byte more or less.
func TestEncodeNumbers(t *testing.T) {
	most := []byte{255, 255, 255, 255, 255, 255, 255, 255, 255, 1}
	for _, n := range []struct {
		value uint64
		b     []byte
	}{
		{1, []byte{1}}, {127, []byte{127}}, {128, []byte{128, 1}}, {1<<14 - 1, []byte{255, 127}}, {1 << 14, []byte{128, 128, 1}},
		{1 << 32, []byte{128, 128, 128, 128, 16}}, {1<<63 - 1, []byte{255, 255, 255, 255, 255, 255, 255, 255, 127}},
		{1 << 63, []byte{128, 128, 128, 128, 128, 128, 128, 128, 128, 1}}, {top, most},
	} {
		x := api.Tx{Sender: "a", Sequence: n.value, Gas: n.value, Fee: n.value, Transfers: []api.Transfer{{To: "b", Amount: n.value}}}
		b := join([]byte{10, 1, 'a', 16}, n.b, []byte{24}, n.b, []byte{32}, n.b, []byte{50, byte(4 + len(n.b)), 10, 1, 'b', 16}, n.b)
		checkTx(t, x, b, api.OK)
	}
}

// P10.2: the greatest transaction that the limits of its parts allow has far less than MaxTx bytes, so the last error of Encode never applies.
func TestEncodeLargest(t *testing.T) {
	most := []byte{255, 255, 255, 255, 255, 255, 255, 255, 255, 1}
	name := join([]byte{10, 20}, []byte(long(20)))
	transfer := join([]byte{50, 33}, name, []byte{16}, most)
	b := join(name, []byte{16}, most, []byte{24}, most, []byte{32}, most, []byte{42, 128, 2}, bytes.Repeat([]byte{0xf4, 0x8f, 0xbf, 0xbf}, 64), bytes.Repeat(transfer, 16))
	checkTx(t, largest(), b, api.OK)
	if len(b) != 874 || len(b) > api.MaxTx {
		t.Errorf("the greatest transaction has %d bytes", len(b))
	}
}

// P10.2: an invalid transaction returns the error of Validate, also where its encoding would have more than MaxTx bytes.
func TestEncodeTooLarge(t *testing.T) {
	x := full()
	x.Memo = long(api.MaxTx)
	if b, e := tx.Encode(x); len(b) != 0 || e != api.ErrMemo {
		t.Errorf("Encode with a memo of MaxTx bytes = %d bytes, %d", len(b), e)
	}
	x.Sender = long(1 << 20)
	if b, e := tx.Encode(x); len(b) != 0 || e != api.ErrName {
		t.Errorf("Encode with a sender of 2^20 bytes = %d bytes, %d", len(b), e)
	}
	x = full()
	x.Transfers[1].To = long(1 << 20)
	if b, e := tx.Encode(x); len(b) != 0 || e != api.ErrName {
		t.Errorf("Encode with a recipient of 2^20 bytes = %d bytes, %d", len(b), e)
	}
}

// P10.3, P10.4
func TestDecodeOfEncode(t *testing.T) {
	seen := map[string]bool{}
	for _, x := range samples() {
		b, e := tx.Encode(x)
		if e != api.OK || seen[string(b)] {
			t.Errorf("Encode(%v) = %d, %d, which is an error, or the encoding of another transaction", x, b, e)
		}
		seen[string(b)] = true
		checkTx(t, x, encoding(x), api.OK)
	}
}

// P10.4: transactions that differ in one place have different bytes.
func TestDifferentBytes(t *testing.T) {
	one := simple()
	l := []api.Tx{one}
	for _, change := range []func(x *api.Tx){
		sender("anna"), sender("an"), sender("amn"), memo("ann"), memo("\x00"),
		func(x *api.Tx) { x.Sequence = 200 }, func(x *api.Tx) { x.Fee = 200 }, func(x *api.Tx) { x.Gas = 201 }, func(x *api.Tx) { x.Gas = 1 },
		func(x *api.Tx) { x.Sequence = 300 }, func(x *api.Tx) { x.Fee = 300 },
		func(x *api.Tx) { slices.Reverse(x.Transfers) }, transfers(1), transfers(3), to(0, "c"), to(1, "bob"),
		func(x *api.Tx) { x.Transfers[0].Amount = 300 }, func(x *api.Tx) { x.Transfers[1].Amount = 5 },
	} {
		x := simple()
		change(&x)
		l = append(l, x)
	}
	seen := map[string]int{}
	for i, x := range l {
		b, e := tx.Encode(x)
		if j, there := seen[string(b)]; there || e != api.OK {
			t.Errorf("Encode of the transaction %d = %d, %d, as of the transaction %d", i, b, e, j)
		}
		seen[string(b)] = i
	}
}

// P10.3, P10.4: encodings with one change.
func TestDecodeChanged(t *testing.T) {
	count := map[api.Errno]int{}
	check := func(b []byte) {
		count[checkDefined(t, b)]++
	}
	l := samples()
	for _, f := range faults() {
		x := full()
		f.change(&x)
		l = append(l, x)
	}
	for _, x := range l {
		b := encoding(x)
		for i := range b {
			for bit := range 8 {
				changed := bytes.Clone(b)
				changed[i] ^= 1 << bit
				check(changed)
			}
			check(slices.Delete(bytes.Clone(b), i, i+1))
			check(slices.Insert(bytes.Clone(b), i, b[i]))
			for _, c := range []byte{0, 1, 10, 16, 50, 127, 128, 255} {
				check(slices.Insert(bytes.Clone(b), i, c))
			}
			check(b[:i])
			check(b[i:])
		}
	}
	for _, e := range []api.Errno{api.OK, api.ErrEncoding, api.ErrName, api.ErrGas, api.ErrMemo, api.ErrLimit, api.ErrAmount} {
		if count[e] < 10 {
			t.Errorf("Decode of changed encodings returns %d only %d times", e, count[e])
		}
	}
}

// P10.3, P10.4: each byte of short encodings changed to every other one, and every byte put in at each place.
func TestDecodeEveryByte(t *testing.T) {
	for _, x := range []api.Tx{simple(), full(), {Sender: "a", Gas: 1, Transfers: []api.Transfer{{To: "b", Amount: 1}}}} {
		b := encoding(x)
		for i := range len(b) + 1 {
			for c := range 256 {
				checkDefined(t, slices.Insert(bytes.Clone(b), i, byte(c)))
				if i < len(b) {
					changed := bytes.Clone(b)
					changed[i] = byte(c)
					checkDefined(t, changed)
				}
			}
		}
	}
}

// P10.3: a piece of an encoding left out, doubled, or put elsewhere.
func TestDecodePieces(t *testing.T) {
	b := encoding(full())
	for i := range b {
		for j := i + 1; j <= len(b); j++ {
			piece, rest := b[i:j], join(b[:i], b[j:])
			checkDefined(t, rest)
			checkDefined(t, piece)
			checkDefined(t, join(b[:j], piece, b[j:]))
			for k := range len(rest) + 1 {
				checkDefined(t, join(rest[:k], piece, rest[k:]))
			}
		}
	}
}

// P10.3: an encoding that is continued by another transfer is that of another transaction; by anything else it is none.
func TestDecodeContinued(t *testing.T) {
	for _, x := range samples() {
		b := encoding(x)
		for _, tail := range [][]byte{{0}, {0, 0}, {1}, {255}, {128}, {8, 1}, {10, 1, 'a'}, {16, 1}, {24, 1}, {32, 1}, {42, 1, 'a'}, {48, 1}, {48, 0}, {50}, {50, 1}, {50, 1, 0}, {56, 0}, {56, 1}, {58, 0}, {58, 1, 'a'}, {128, 1, 1}, {130, 1, 0}, b} {
			checkError(t, join(b, tail), api.ErrEncoding)
		}
		more := x
		more.Transfers = append(slices.Clone(x.Transfers), api.Transfer{To: "more", Amount: 9})
		e := api.OK
		if len(more.Transfers) > 16 {
			e = api.ErrLimit
		}
		checkTx(t, more, join(b, []byte{50, 8, 10, 4, 'm', 'o', 'r', 'e', 16, 9}), e)
	}
}

// orders returns all orders of the numbers below n.
func orders(n int) [][]int {
	if n == 0 {
		return [][]int{{}}
	}
	var l [][]int
	for _, o := range orders(n - 1) {
		for i := range n {
			l = append(l, slices.Insert(slices.Clone(o), i, n-1))
		}
	}
	return l
}

// P10.3: the fields in every order. Only the transfers may change places.
func TestDecodeOrder(t *testing.T) {
	p := pieces()
	for _, order := range orders(len(p)) {
		var b []byte
		for _, i := range order {
			b = append(b, p[i]...)
		}
		x := full()
		switch {
		case slices.IsSorted(order):
			checkDecode(t, b, x, api.OK)
		case slices.IsSorted(order[:5]) && order[4] == 4:
			slices.Reverse(x.Transfers)
			checkDecode(t, b, x, api.OK)
		default:
			checkError(t, b, api.ErrEncoding)
		}
	}
}

// P10.3: each field twice, at every place, with the same value and another one.
func TestDecodeTwice(t *testing.T) {
	other := [][]byte{{10, 1, 'x'}, {16, 8}, {24, 1}, {32, 1}, {42, 1, 'x'}}
	for i, again := range other {
		for _, field := range [][]byte{pieces()[i], again} {
			for k := range len(pieces()) + 1 {
				checkError(t, join(slices.Insert(pieces(), k, field)...), api.ErrEncoding)
			}
		}
	}
	// Transfers may be equal.
	x := full()
	x.Transfers = append(x.Transfers, x.Transfers[1])
	checkTx(t, x, join(append(pieces(), pieces()[6])...), api.OK)
}

// P10.3: each field with the other kind, with a kind that no field has, and with every other number.
func TestDecodeKindAndNumber(t *testing.T) {
	for i, n := range []int{1, 2, 3, 4, 5, 6, 6} {
		for _, wrong := range [][]byte{number(n, 1), number(n, 0), number(n, top), text(n, "a"), text(n, ""), text(n, []byte{1}), text(n, pieces()[5][2:])} {
			p := pieces()
			if wrong[0] == p[i][0] {
				continue
			}
			p[i] = wrong
			checkError(t, join(p...), api.ErrEncoding)
		}
		for _, kind := range []byte{1, 3, 4, 5, 6, 7} {
			p := pieces()
			p[i][0] = byte(8*n) + kind
			checkError(t, join(p...), api.ErrEncoding)
		}
		for _, m := range []int{0, 1, 2, 3, 4, 5, 6, 7, 8, 15, 16, 17, 33, 64, 128 + n, 256 + n, 1<<16 + n, 1<<28 + n, api.MaxField, 1<<29 + n, 1<<32 + n} {
			if m == n {
				continue
			}
			p := pieces()
			p[i] = join(binary.AppendUvarint(nil, uint64(8*m)+uint64(p[i][0]%8)), p[i][1:])
			checkError(t, join(p...), api.ErrEncoding)
		}
	}
}

// P10.3: a field of 0, or an empty one, that is to be left out, in the place of the field and beside it.
func TestDecodeZeroFields(t *testing.T) {
	for i, zero := range [][]byte{{10, 0}, {16, 0}, {24, 0}, {32, 0}, {42, 0}} {
		p := pieces()
		p[i] = zero
		checkError(t, join(p...), api.ErrEncoding)
		for k := range len(pieces()) + 1 {
			checkError(t, join(slices.Insert(pieces(), k, zero)...), api.ErrEncoding)
		}
	}
	// An empty transfer is not left out: the transaction has an encoding, and is not valid.
	for k := 5; k <= 7; k++ {
		checkError(t, join(slices.Insert(pieces(), k, []byte{50, 0})...), api.ErrName)
	}
	for k := range 5 {
		checkError(t, join(slices.Insert(pieces(), k, []byte{50, 0})...), api.ErrEncoding)
	}
}

// bodies lists messages that are no transfers.
func bodies() [][]byte {
	to, amount := []byte{10, 3, 'b', 'o', 'b'}, []byte{16, 5}
	l := [][]byte{
		// The fields in another order, twice, and with others.
		join(amount, to), join(to, to, amount), join(to, amount, amount), join(to, amount, to), join(to, []byte{10, 1, 'c'}, amount), join(to, amount, []byte{16, 6}),
		join(to, amount, []byte{24, 1}), join(to, []byte{26, 1, 'a'}, amount), join([]byte{24, 1}, to, amount), join(to, amount, []byte{50, 0}), {24, 1}, {26, 0}, {32, 1}, {42, 1, 'a'}, {48, 1}, {50, 0}, {58, 0},
		// A value of 0, or an empty one.
		{10, 0}, {16, 0}, join([]byte{10, 0}, amount), join(to, []byte{16, 0}), {10, 0, 16, 0}, join([]byte{10, 0}, to, amount), join(to, []byte{16, 0}, amount), join(to, amount, []byte{16, 0}), join(to, amount, []byte{10, 0}),
		// Another kind.
		join([]byte{8, 1}, amount), join([]byte{8, 0}, amount), join(to, []byte{18, 1, 5}), join(to, []byte{18, 0}), {8, 1, 18, 1, 5}, join([]byte{8, 1}, to, amount), join(to, []byte{18, 1, 5}, amount),
		join([]byte{9, 3, 'b', 'o', 'b'}, amount), join([]byte{13, 3, 'b', 'o', 'b'}, amount), join(to, []byte{17, 5}), join(to, []byte{21, 5}),
		// Another number.
		join([]byte{18, 3, 'b', 'o', 'b'}, amount), join(to, []byte{8, 5}), join([]byte{2, 3, 'b', 'o', 'b'}, amount), join(to, []byte{0, 5}), join([]byte{26, 3, 'b', 'o', 'b'}, amount), join(to, []byte{24, 5}), join([]byte{138, 8, 3, 'b', 'o', 'b'}, amount), join(to, []byte{144, 8, 5}),
		// A number that is longer than it need be.
		join([]byte{10, 131, 0, 'b', 'o', 'b'}, amount), join([]byte{138, 0, 3, 'b', 'o', 'b'}, amount), join(to, []byte{16, 133, 0}), join(to, []byte{144, 0, 5}), join(to, []byte{16, 133, 128, 128, 0}),
		// No message: numbers that are too large, lengths that are too long, bytes that end too soon.
		join(to, []byte{16}, bytes.Repeat([]byte{255}, 9), []byte{2}), join(to, []byte{16}, bytes.Repeat([]byte{255}, 10), []byte{1}), join(amount[:1], to), {10, 3, 'b', 'o'}, {10, 4, 'b', 'o', 'b'}, {10}, {10, 128}, join(to, []byte{16}), join(to, []byte{16, 128}), join(to, []byte{144}), join(to, amount, []byte{0}), {0}, {0, 0}, {255}, {'b', 'o', 'b'},
		join([]byte{10}, bytes.Repeat([]byte{255}, 9), []byte{1, 'b', 'o', 'b'}, amount), join(to, []byte{10, 9}, amount),
	}
	for i := range to {
		if i > 0 {
			l = append(l, to[:i])
		}
	}
	return l
}

// P10.3: a transfer that is not of its form, in the place of each transfer and behind them.
func TestDecodeTransferForm(t *testing.T) {
	for _, body := range bodies() {
		for i := 5; i <= 7; i++ {
			checkError(t, join(slices.Insert(pieces(), i, text(6, body))...), api.ErrEncoding)
		}
		for i := 5; i < 7; i++ {
			p := pieces()
			p[i] = text(6, body)
			checkError(t, join(p...), api.ErrEncoding)
		}
		// Behind 16 transfers, or alone.
		checkError(t, join(encoding(largest()), text(6, body)), api.ErrEncoding)
		checkError(t, join(join(pieces()[:5]...), text(6, body)), api.ErrEncoding)
		checkError(t, text(6, body), api.ErrEncoding)
	}
}

// P10.3: tags, numbers and lengths that are longer than they need be.
func TestDecodeLongNumbers(t *testing.T) {
	// The offsets of the varints in pieces: the last bytes of them.
	for i, ends := range [][]int{{0, 1}, {0, 1}, {0, 2}, {0, 2}, {0, 1}, {0, 1, 2, 3, 7, 8}, {0, 1, 2, 3, 5, 7}} {
		for _, end := range ends {
			for longer := 1; longer < 12; longer++ {
				f := pieces()[i]
				zeros := append(bytes.Repeat([]byte{128}, longer-1), 0)
				b := join(f[:end], []byte{f[end] | 128}, zeros, f[end+1:])
				// Within a transfer, its length has to count the zeros.
				if i >= 5 && end > 1 {
					b[1] += byte(longer)
				}
				p := pieces()
				p[i] = b
				checkError(t, join(p...), api.ErrEncoding)
			}
		}
	}
}

// P10.3: raw bytes of MaxTx bytes, and of one more.
func TestDecodeMaxTx(t *testing.T) {
	for _, n := range []int{4097, 4098, 5000, 1 << 16, 1 << 20} {
		for _, c := range []byte{0, 1, 10, 50, 128, 255} {
			checkError(t, bytes.Repeat([]byte{c}, n), api.ErrLimit)
		}
	}
	for _, c := range []byte{0, 1, 10, 128, 255} {
		checkError(t, bytes.Repeat([]byte{c}, 4096), api.ErrEncoding)
	}
	for size := 4090; size < 4101; size++ {
		x := full()
		x.Sender = long(3 + size - len(encoding(x)) - 1) // its length takes a second byte
		checkSized(t, encoding(x), size, api.ErrName)
		x = full()
		x.Memo = long(2 + size - len(encoding(x)) - 1)
		checkSized(t, encoding(x), size, api.ErrMemo)
		x = full()
		x.Transfers[1].To = long(1 + size - len(encoding(x)) - 2) // that of the transfer, too
		checkSized(t, encoding(x), size, api.ErrName)
		x = full()
		x.Gas = 0
		x.Transfers[1].To = long(1 + size - len(encoding(x)) - 2)
		checkSized(t, encoding(x), size, api.ErrGas)
		checkSized(t, join(encoding(full()), text(7, long(size-len(encoding(full()))-3))), size, api.ErrEncoding)
		checkSized(t, join(text(1, long(size-5)), []byte{16, 0}), size, api.ErrEncoding)
	}
}

// checkSized checks that b has so many bytes, and that Decode returns e unless these are more than MaxTx.
func checkSized(t *testing.T, b []byte, size int, e api.Errno) {
	t.Helper()
	if len(b) != size {
		t.Fatalf("there are %d bytes instead of %d", len(b), size)
	}
	if size > 4096 {
		e = api.ErrLimit
	}
	checkError(t, b, e)
}

// P10.3: wire.Fields reads at most MaxFields fields, so a message with more of them is no encoding.
func TestDecodeMaxFields(t *testing.T) {
	head := join(pieces()[:5]...)
	for n := 1010; n < 1030; n++ {
		e := api.ErrLimit
		if 5+n > api.MaxFields {
			e = api.ErrEncoding
		}
		checkError(t, join(head, bytes.Repeat([]byte{50, 0}, n)), e)
	}
	checkError(t, bytes.Repeat([]byte{50, 0}, 1024), api.ErrName)
	checkError(t, bytes.Repeat([]byte{50, 0}, 1025), api.ErrEncoding)
	checkError(t, bytes.Repeat([]byte{50, 0}, 2048), api.ErrEncoding)
	checkError(t, append(bytes.Repeat([]byte{50, 0}, 2048), 50), api.ErrLimit)
}

// P10.3: encodings of transactions that are not valid, written out.
func TestDecodeInvalid(t *testing.T) {
	p := pieces()
	from, gas, transfer := p[0], p[2], p[5]
	for _, x := range []struct {
		b []byte
		e api.Errno
	}{
		{nil, api.ErrName}, {[]byte{}, api.ErrName}, {transfer, api.ErrName}, {gas, api.ErrName}, {join(gas, transfer), api.ErrName},
		{join([]byte{10, 3, 'A', 'n', 'n'}, gas, transfer), api.ErrName}, {join([]byte{10, 3, 'a', ' ', 'n'}, gas, transfer), api.ErrName}, {join([]byte{10, 3, 'a', 'n', 0}, gas, transfer), api.ErrName}, {join([]byte{10, 3, 'a', 'n', 255}, gas, transfer), api.ErrName}, {join([]byte{10, 21}, []byte(long(21)), gas, transfer), api.ErrName},
		{from, api.ErrGas}, {join(from, transfer), api.ErrGas}, {join(from, []byte{16, 7}, transfer), api.ErrGas}, {join(from, []byte{42, 1, 255}), api.ErrGas},
		{join(from, gas, []byte{42, 1, 255}), api.ErrMemo}, {join(from, gas, []byte{42, 1, 255}, transfer), api.ErrMemo}, {join(from, gas, []byte{42, 65}, []byte(long(65)), transfer), api.ErrMemo}, {join(from, gas, []byte{42, 2, 0xc3, 'a'}, transfer), api.ErrMemo},
		{join(from, gas), api.ErrLimit}, {join(from, gas, []byte{32, 1}), api.ErrLimit}, {join(from, gas, bytes.Repeat(transfer, 17)), api.ErrLimit}, {join(from, gas, bytes.Repeat(transfer, 100)), api.ErrLimit},
		{join(from, gas, []byte{50, 0}), api.ErrName}, {join(from, gas, []byte{50, 2, 16, 5}), api.ErrName}, {join(from, gas, []byte{50, 3, 10, 1, 'B'}), api.ErrName}, {join(from, gas, transfer, []byte{50, 5, 10, 1, 'B', 16, 5}), api.ErrName},
		{join(from, gas, []byte{50, 3, 10, 1, 'b'}), api.ErrAmount}, {join(from, gas, transfer, []byte{50, 3, 10, 1, 'b'}), api.ErrAmount}, {join(from, gas, []byte{50, 3, 10, 1, 'b'}, transfer), api.ErrAmount}, {join(from, gas, []byte{50, 3, 10, 1, 'b'}, []byte{50, 0}), api.ErrAmount},
	} {
		checkError(t, x.b, x.e)
	}
}

// P10.3: a message of another form is ErrEncoding also where the transaction would not be valid.
func TestDecodeFormFirst(t *testing.T) {
	l := faults()
	for _, f := range l {
		for _, g := range l {
			x := full()
			if f.place < g.place {
				g.change(&x)
			}
			f.change(&x)
			b := encoding(x)
			for _, wrong := range [][]byte{
				join(b, []byte{0}), join(b, []byte{56, 1}), join(b, []byte{58, 0}), join(b, []byte{50, 1, 0}), join(b, []byte{50, 2, 16, 0}), join(b, []byte{50, 1}), join(b, []byte{48, 0}), join(b, []byte{32, 5}), join(b, []byte{16, 133, 0}),
				join([]byte{10, 0}, b), join([]byte{8, 1}, b), join([]byte{42, 1, 'a'}, b), join([]byte{0, 0}, b), join([]byte{58, 0}, b), b[:len(b)-1],
			} {
				checkError(t, wrong, api.ErrEncoding)
			}
		}
	}
}

// P10.3, P10.4: all short words of some letters, behind several beginnings.
func TestDecodeByDefinition(t *testing.T) {
	letters := []byte{0, 1, 2, 5, 'a', 8, 10, 16, 24, 32, 42, 48, 50, 128}
	for _, head := range [][]byte{nil, {10, 1, 'a'}, {10, 1, 'a', 24, 1}, {10, 1, 'a', 24, 1, 50, 5, 10, 1, 'b', 16, 9}} {
		for n := range 5 {
			for _, w := range words(letters, n) {
				checkDefined(t, join(head, w))
			}
		}
	}
	few, valid := []byte{0, 1, 'a', 8, 10, 16, 128}, 0
	for n := range 7 {
		for _, w := range words(few, n) {
			if e := checkDefined(t, join([]byte{10, 1, 'a', 24, 1, 50, byte(n)}, w)); e == api.OK {
				valid++
			}
		}
	}
	// The name has to be "a", and the amount one of five letters, alone or behind 128.
	if valid != 10 {
		t.Errorf("%d transfers of these letters are valid", valid)
	}
}

// some returns a name or a memo, or nearly one.
func some(r *rand.Rand, letters []string, most int) string {
	var s strings.Builder
	for range r.Intn(most + 1) {
		s.WriteString(letters[r.Intn(len(letters))])
	}
	return s.String()
}

// P10.1 to P10.4: many transactions and changed encodings, from numbers with a fixed start.
func TestMany(t *testing.T) {
	r := rand.New(rand.NewSource(10))
	names, memos := []string{"a", "b", "z", "0", "9", "-"}, append(edges(), "a", "b", "é")
	value := func() uint64 { return r.Uint64() >> r.Intn(65) }
	count := map[api.Errno]int{}
	for range 10000 {
		x := api.Tx{Sender: some(r, names, 21), Sequence: value(), Gas: value(), Fee: value(), Memo: some(r, memos, 65)}
		for range r.Intn(18) {
			y := api.Transfer{To: "x" + some(r, names, 19), Amount: value() | 1}
			if r.Intn(50) == 0 {
				y.Amount = 0
			}
			if r.Intn(50) == 0 {
				y.To = some(r, memos, 3)
			}
			x.Transfers = append(x.Transfers, y)
		}
		b, e := encoding(x), judge(x)
		checkTx(t, x, b, e)
		count[e]++
		for range 5 {
			if len(b) > 0 {
				b[r.Intn(len(b))] ^= 1 << r.Intn(8)
			}
			checkDefined(t, b)
		}
	}
	for _, e := range []api.Errno{api.OK, api.ErrName, api.ErrGas, api.ErrMemo, api.ErrLimit, api.ErrAmount} {
		if count[e] < 30 {
			t.Errorf("%d only %d times", e, count[e])
		}
	}
}

// R2: neither the arguments nor what lies behind them are changed.
func TestKeepsArguments(t *testing.T) {
	for _, f := range append(faults(), fault{api.OK, 0, func(*api.Tx) {}}) {
		x := full()
		f.change(&x)
		if len(x.Transfers) == 0 {
			continue
		}
		array := append(slices.Clone(x.Transfers), api.Transfer{To: "kept", Amount: 1}, api.Transfer{To: "too", Amount: 2})
		before := slices.Clone(array)
		x.Transfers = array[:len(x.Transfers)]
		tx.Validate(x)
		tx.Encode(x)
		if !slices.Equal(array, before) {
			t.Errorf("Validate or Encode has changed the transfers %v to %v", before, array)
		}
		raw := append(encoding(x), 50, 0, 'k', 'e', 'p', 't')
		kept := bytes.Clone(raw)
		for i := range raw {
			tx.Decode(raw[:i])
		}
		if !bytes.Equal(raw, kept) {
			t.Errorf("Decode has changed %d to %d", kept, raw)
		}
	}
}

// R2: results share memory with nothing.
func TestResultsApart(t *testing.T) {
	x := full()
	b, _ := tx.Encode(x)
	c, _ := tx.Encode(x)
	for i := range b[:cap(b)] {
		b[:cap(b)][i] ^= 255
	}
	if want := encoding(full()); !bytes.Equal(c, want) || !same(x, full()) {
		t.Errorf("Encode = %d and %v after another result was changed", c, x)
	}
	if again, _ := tx.Encode(x); !bytes.Equal(again, c) {
		t.Errorf("Encode = %d after its first result was changed", again)
	}
	raw := encoding(full())
	y, _ := tx.Decode(raw)
	z, _ := tx.Decode(raw)
	for i := range y.Transfers[:cap(y.Transfers)] {
		y.Transfers[:cap(y.Transfers)][i] = api.Transfer{To: "other", Amount: 99}
	}
	if !same(z, full()) || !bytes.Equal(raw, encoding(full())) {
		t.Errorf("Decode = %v, of %d, after another result was changed", z, raw)
	}
	for i := range raw {
		raw[i] ^= 255
	}
	if !same(z, full()) {
		t.Errorf("Decode = %v after its argument was changed", z)
	}
}

// R3: a result does not depend on earlier calls.
func TestAgain(t *testing.T) {
	raw, wrong := encoding(full()), encoding(full())[1:]
	for range 3 {
		checkDecode(t, raw, full(), api.OK)
		checkError(t, wrong, api.ErrEncoding)
		checkTx(t, simple(), encoding(simple()), api.OK)
		checkError(t, nil, api.ErrName)
	}
}
