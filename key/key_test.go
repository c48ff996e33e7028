package key_test

import (
	"bytes"
	"cmp"
	"crypto/sha256"
	"encoding/hex"
	"slices"
	"strings"
	"testing"

	"mempool/api"
	"mempool/key"
)

const (
	size  = len(api.Key{})
	width = 2 * size // bytes of a text

	digits        = "0123456789abcdef"
	ascendingText = "000102030405060708090a0b0c0d0e0f101112131415161718191a1b1c1d1e1f"
)

// random returns a function that returns another byte at each call, always the same ones.
func random() func() byte {
	x := uint32(1)
	return func() byte {
		x = x*1664525 + 1013904223
		return byte(x >> 24)
	}
}

// varied returns n different keys.
func varied(n int) []api.Key {
	next := random()
	l := make([]api.Key, n)
	for i := range l {
		for j := range l[i] {
			l[i][j] = next()
		}
	}
	return l
}

// filled returns the key whose bytes are all c.
func filled(c byte) (k api.Key) {
	for i := range k {
		k[i] = c
	}
	return k
}

// ascending returns the key with the text ascendingText.
func ascending() (k api.Key) {
	for i := range k {
		k[i] = byte(i)
	}
	return k
}

// with returns k with the byte c at the place i.
func with(k api.Key, i int, c byte) api.Key {
	k[i] = c
	return k
}

// samples returns different keys, many of which have a long beginning or a long end in common.
func samples() []api.Key {
	l := varied(5)
	for _, k := range []api.Key{{}, filled(127), filled(128), l[0]} {
		for _, i := range []int{0, 1, size / 2, size - 2, size - 1} {
			for _, c := range []byte{0, 1, 9, 10, 15, 16, 126, 127, 128, 129, 159, 160, 254, 255} {
				l = append(l, with(k, i, c))
			}
		}
	}
	l = append(l, filled(255), with(filled(255), 0, 0), with(filled(255), size-1, 0))
	slices.SortFunc(l, func(a, b api.Key) int { return strings.Compare(text(a), text(b)) })
	return slices.Compact(l)
}

// text returns the text of k as the standard library writes it.
func text(k api.Key) string {
	return hex.EncodeToString(k[:])
}

func checkCompare(t *testing.T, a, b api.Key, want int) {
	t.Helper()
	if got := key.Compare(a, b); got != want {
		t.Errorf("Compare(%x, %x) = %d; want %d", a, b, got, want)
	}
	if got := key.Compare(b, a); got != -want {
		t.Errorf("Compare(%x, %x) = %d; want %d", b, a, got, -want)
	}
}

func checkParse(t *testing.T, s string, k api.Key) {
	t.Helper()
	if got, e := key.Parse(s); got != k || e != api.OK {
		t.Errorf("Parse(%q) = %x, %d; want %x", s, got, e, k)
	}
}

func checkSyntax(t *testing.T, s string) {
	t.Helper()
	if k, e := key.Parse(s); k != (api.Key{}) || e != api.ErrSyntax {
		t.Errorf("Parse(%q) = %x, %d; want ErrSyntax", s, k, e)
	}
}

func checkHas(t *testing.T, l []api.Key, k api.Key, want bool) {
	t.Helper()
	if got := key.Has(l, k); got != want {
		t.Errorf("Has of %x in %d keys = %v", k, len(l), got)
	}
}

func checkDistinct(t *testing.T, l []api.Key, want bool) {
	t.Helper()
	if got := key.Distinct(l); got != want {
		t.Errorf("Distinct of %d keys = %v", len(l), got)
	}
}

// The examples of the chapter.
func TestExamples(t *testing.T) {
	empty := key.Format(key.Of(nil))
	if !strings.HasPrefix(empty, "e3b0c442") {
		t.Errorf("example 1: %s", empty)
	}
	checkParse(t, empty, key.Of(nil))
	checkSyntax(t, "A"+empty[1:])
	checkSyntax(t, strings.Repeat("0", width-1)+"A")
	checkDistinct(t, nil, true)
}

// P5.1: the digests that the standard names.
func TestOfStandard(t *testing.T) {
	for _, x := range []struct{ raw, text string }{
		{"", "e3b0c44298fc1c149afbf4c8996fb92427ae41e4649b934ca495991b7852b855"},
		{"abc", "ba7816bf8f01cfea414140de5dae2223b00361a396177a9cb410ff61f20015ad"},
		{"abcdbcdecdefdefgefghfghighijhijkijkljklmklmnlmnomnopnopq", "248d6a61d20638b8e5c026930c3e6039a33ce45964ff2167f6ecedd419db06c1"},
		{"abcdefghbcdefghicdefghijdefghijkefghijklfghijklmghijklmnhijklmnoijklmnopjklmnopqklmnopqrlmnopqrsmnopqrstnopqrstu", "cf5b16a778af8380036ce59e7b0492370b249b11e8f07a51afac45037afee9d1"},
		{strings.Repeat("a", 1000000), "cdc76e5c9914fb9281a1c7e284d73e67f1809a48a497200e046d39ccc7112cd0"},
	} {
		if k := key.Of([]byte(x.raw)); text(k) != x.text {
			t.Errorf("Of %d bytes = %x; want %s", len(x.raw), k, x.text)
		}
	}
}

// P5.1: raw bytes of many lengths, up to more than a transaction may have, as the standard library computes their digests.
func TestOfLengths(t *testing.T) {
	next := random()
	raw := make([]byte, api.MaxTx+2)
	for i := range raw {
		raw[i] = next()
	}
	for n := 0; n <= len(raw); n += 1 + n/64 {
		if k := key.Of(raw[:n]); k != sha256.Sum256(raw[:n]) {
			t.Errorf("Of %d bytes = %x; want %x", n, k, sha256.Sum256(raw[:n]))
		}
	}
	for n := api.MaxTx - 1; n <= len(raw); n++ {
		if k := key.Of(raw[:n]); k != sha256.Sum256(raw[:n]) {
			t.Errorf("Of %d bytes = %x; want %x", n, k, sha256.Sum256(raw[:n]))
		}
	}
}

// P5.1 with R2: nil and empty slices are equivalent, and what lies behind raw in its array does not count.
func TestOfNothing(t *testing.T) {
	for _, raw := range [][]byte{nil, {}, make([]byte, 0, 9), []byte("abc")[:0], []byte("abc")[3:]} {
		if k := key.Of(raw); k != sha256.Sum256(nil) {
			t.Errorf("Of no bytes = %x; want %x", k, sha256.Sum256(nil))
		}
	}
}

// P5.1: two keys that differ in one byte, for each place and all pairs of byte values at it.
func TestCompareOneByte(t *testing.T) {
	for _, k := range []api.Key{{}, filled(128), filled(255), varied(1)[0]} {
		for i := range size {
			for a := range 256 {
				for b := a; b < 256; b++ {
					if got, want := key.Compare(with(k, i, byte(a)), with(k, i, byte(b))), cmp.Compare(a, b); got != want {
						t.Fatalf("Compare of the bytes %d and %d at %d = %d; want %d", a, b, i, got, want)
					}
					if got, want := key.Compare(with(k, i, byte(b)), with(k, i, byte(a))), cmp.Compare(b, a); got != want {
						t.Fatalf("Compare of the bytes %d and %d at %d = %d; want %d", b, a, i, got, want)
					}
				}
			}
		}
	}
}

// P5.1: the first byte that differs decides, also where a later one, or all of them, differ the other way.
func TestCompareTwoBytes(t *testing.T) {
	pairs := [][2]byte{{0, 1}, {0, 255}, {1, 2}, {9, 10}, {127, 128}, {1, 128}, {127, 255}, {128, 129}, {254, 255}}
	for i := range size {
		for _, p := range pairs {
			for j := i + 1; j < size; j++ {
				for _, q := range pairs {
					a := with(with(filled(77), i, p[0]), j, q[1])
					b := with(with(filled(77), i, p[1]), j, q[0])
					checkCompare(t, a, b, -1)
				}
			}
			a, b := filled(77), filled(77)
			for j := i; j < size; j++ {
				a[j], b[j] = 255, 0
			}
			checkCompare(t, with(a, i, p[0]), with(b, i, p[1]), -1)
		}
	}
}

// P5.1
func TestCompareEqual(t *testing.T) {
	for _, k := range samples() {
		checkCompare(t, k, k, 0)
	}
	for c := range 256 {
		checkCompare(t, filled(byte(c)), filled(byte(c)), 0)
	}
	checkCompare(t, api.Key{}, api.Key{}, 0)
}

// P5.4: Compare is a total order. Each two of the samples, in both orders, and each three of some of them.
func TestCompareTotalOrder(t *testing.T) {
	l := samples()
	for i, a := range l {
		for j, b := range l {
			got := key.Compare(a, b)
			if got != -key.Compare(b, a) || (got == 0) != (a == b) {
				t.Errorf("Compare(%x, %x) = %d, and the other way %d", a, b, got, key.Compare(b, a))
			}
			if want := cmp.Compare(i, j); got != want {
				t.Errorf("Compare(%x, %x) = %d; want %d", a, b, got, want)
			}
		}
	}
	for i := 0; i < len(l); i += 3 {
		for j := 0; j < len(l); j += 3 {
			for m := 0; m < len(l); m += 3 {
				a, b, c := l[i], l[j], l[m]
				if key.Compare(a, b) <= 0 && key.Compare(b, c) <= 0 && key.Compare(a, c) > 0 {
					t.Errorf("%x is not after %x, which is not after %x, but it is after this one", a, b, c)
				}
			}
		}
	}
}

// P5.4: Compare agrees with the order of the texts.
func TestCompareTexts(t *testing.T) {
	l := append(samples(), varied(100)...)
	for _, a := range l {
		for _, b := range l {
			if got, want := key.Compare(a, b), strings.Compare(key.Format(a), key.Format(b)); got != want {
				t.Errorf("Compare(%x, %x) = %d; of their texts it is %d", a, b, got, want)
			}
		}
	}
}

// P5.2: every byte value at every place.
func TestFormat(t *testing.T) {
	for i := range size {
		for c := range 256 {
			pair := digits[c/16:c/16+1] + digits[c%16:c%16+1]
			for _, x := range []struct {
				around byte
				text   string
			}{{0, "00"}, {0xab, "ab"}, {255, "ff"}} {
				want := strings.Repeat(x.text, i) + pair + strings.Repeat(x.text, size-1-i)
				if s := key.Format(with(filled(x.around), i, byte(c))); s != want {
					t.Errorf("Format of the byte %d at %d = %q; want %q", c, i, s, want)
				}
			}
		}
	}
	// Each byte is another one, so none can take the place of another one.
	if s := key.Format(ascending()); s != ascendingText {
		t.Errorf("Format(%x) = %q", ascending(), s)
	}
	for _, k := range append(samples(), varied(500)...) {
		if s := key.Format(k); s != text(k) {
			t.Errorf("Format(%x) = %q", k, s)
		}
	}
}

// P5.2: Parse of texts that are written out.
func TestParse(t *testing.T) {
	checkParse(t, strings.Repeat("0", width), api.Key{})
	checkParse(t, strings.Repeat("f", width), filled(255))
	checkParse(t, strings.Repeat("0f", size), filled(15))
	checkParse(t, strings.Repeat("f0", size), filled(240))
	checkParse(t, strings.Repeat("9a", size), filled(154))
	checkParse(t, strings.Repeat("a9", size), filled(169))
	checkParse(t, ascendingText, ascending())
	checkParse(t, "e3b0c44298fc1c149afbf4c8996fb92427ae41e4649b934ca495991b7852b855", sha256.Sum256(nil))
}

// P5.2 and P5.4: Parse of every text that Format returns, with every byte value at every place.
func TestParseFormat(t *testing.T) {
	for _, k := range []api.Key{{}, filled(0xab), filled(255), varied(1)[0]} {
		for i := range size {
			for c := range 256 {
				x := with(k, i, byte(c))
				checkParse(t, key.Format(x), x)
			}
		}
	}
	for _, k := range append(samples(), varied(500)...) {
		checkParse(t, key.Format(k), k)
	}
}

// P5.2: texts of every other length, also those that begin or end with a whole text.
func TestParseLength(t *testing.T) {
	checkSyntax(t, "")
	for _, s := range []string{strings.Repeat("0", 4*width), strings.Repeat("f", 4*width), strings.Repeat("0123456789abcdef", 16)} {
		for n := range len(s) + 1 {
			if n == width {
				continue
			}
			checkSyntax(t, s[:n])
			checkSyntax(t, s[len(s)-n:])
		}
	}
	whole := text(sha256.Sum256(nil))
	for _, more := range []string{"0", "00", " ", "\n", "\x00", "g", "\u00e9", whole} {
		checkSyntax(t, whole+more)
		checkSyntax(t, more+whole)
	}
	for _, n := range []int{1 << 10, 1<<16 + width, 1 << 20} {
		checkSyntax(t, strings.Repeat("0", n))
	}
}

// P5.2: a text in which one byte is changed is that of another key, or of none.
func TestParseChanged(t *testing.T) {
	for _, k := range []api.Key{{}, filled(255), sha256.Sum256(nil), varied(1)[0]} {
		whole := text(k)
		for i := range width {
			for c := range 256 {
				s := whole[:i] + string([]byte{byte(c)}) + whole[i+1:]
				value := strings.IndexByte(digits, byte(c))
				if value < 0 {
					checkSyntax(t, s)
					continue
				}
				// The digits with an even index are the high ones.
				changed := k[i/2]&0xf0 | byte(value)
				if i%2 == 0 {
					changed = k[i/2]&0x0f | byte(value)<<4
				}
				checkParse(t, s, with(k, i/2, changed))
			}
		}
	}
}

// P5.2: capital digits and signs that other notations of numbers allow.
func TestParseOtherNotations(t *testing.T) {
	whole := text(sha256.Sum256(nil))
	checkSyntax(t, strings.ToUpper(whole))
	checkSyntax(t, strings.Repeat("F", width))
	checkSyntax(t, whole[:width-1]+strings.ToUpper("b"))
	for _, sign := range []string{"+", "-", "0x", "0X", "_", "#", "\\x", "0o", "h", "'", " ", "\t", "\n", "\r\n", "\x00"} {
		n := width - len(sign)
		for i := range n + 1 {
			checkSyntax(t, strings.Repeat("1", i)+sign+strings.Repeat("1", n-i))
		}
		checkSyntax(t, sign+whole)
		checkSyntax(t, whole+sign)
	}
	checkSyntax(t, strings.Repeat(" ", width))
	checkSyntax(t, strings.Repeat("\x00", width))
	checkSyntax(t, strings.Repeat("\xff", width))
}

// P5.2: runes that look like digits, in texts with 64 bytes and in texts with 64 runes.
func TestParseRunes(t *testing.T) {
	for _, r := range []string{"\u00e9", "\u0430", "\u0435", "\u0441", "a\u0301", "\u0663", "\u0660", "\uff10", "\uff41", "\u200b", "\ufeff", "\ufffd", "\U0001d7d8", "\u0130", "\u0161", "\U00010041"} {
		for i := range width - len(r) + 1 {
			checkSyntax(t, strings.Repeat("0", i)+r+strings.Repeat("0", width-len(r)-i))
		}
		for i := range width {
			checkSyntax(t, strings.Repeat("0", i)+r+strings.Repeat("0", width-1-i))
		}
		checkSyntax(t, strings.Repeat(r, width))
		checkSyntax(t, strings.Repeat(r, width/len(r)))
	}
}

// P5.2: two digits that are both wrong, and a wrong digit in a text of another length.
func TestParseTwoErrors(t *testing.T) {
	whole := text(sha256.Sum256(nil))
	for i := range width {
		for j := range i {
			checkSyntax(t, whole[:j]+"G"+whole[j+1:i]+"g"+whole[i+1:])
		}
		checkSyntax(t, whole[:i]+"g"+whole[i:])
		checkSyntax(t, whole[:i]+"/")
	}
}

// P5.3: each key of lists of several lengths, and keys that differ from one of them in one bit.
func TestHas(t *testing.T) {
	all := varied(130)
	for _, n := range []int{1, 2, 3, 4, 7, 64, 100} {
		l, others := all[:n], all[n:]
		checkHas(t, l, l[0], true)
		checkHas(t, l, l[n/2], true)
		checkHas(t, l, l[n-1], true)
		for i, k := range l {
			checkHas(t, l, k, true)
			checkHas(t, slices.Concat(l[:i], l[i+1:]), k, false)
			for bit := range 8 * size {
				checkHas(t, l, with(k, bit/8, k[bit/8]^1<<(bit%8)), false)
			}
		}
		for _, k := range others {
			checkHas(t, l, k, false)
		}
		checkHas(t, l, api.Key{}, false)
		// A key that occurs twice occurs.
		checkHas(t, append(slices.Clone(l), l...), l[n-1], true)
	}
	checkHas(t, []api.Key{all[0], {}, all[1]}, api.Key{}, true)
	checkHas(t, []api.Key{{}}, api.Key{}, true)
	checkHas(t, []api.Key{{}}, all[0], false)
}

// P5.3: no keys, also where some lie behind the end of the slice.
func TestNoKeys(t *testing.T) {
	twice := []api.Key{{}, {}, filled(1), filled(1)}
	for _, empty := range [][]api.Key{nil, {}, make([]api.Key, 0, 4), twice[:0], twice[4:]} {
		checkHas(t, empty, api.Key{}, false)
		checkHas(t, empty, filled(1), false)
		checkDistinct(t, empty, true)
	}
	checkHas(t, twice[:2], filled(1), false)
	checkDistinct(t, twice[1:3], true)
}

// P5.3: lists of different keys, and all lists that repeat one of the keys at any other place.
func TestDistinct(t *testing.T) {
	all := varied(40)
	for _, n := range []int{1, 2, 3, 4, 9, 40} {
		l := all[:n]
		checkDistinct(t, l, true)
		for i := range n {
			for j := range n + 1 {
				checkDistinct(t, slices.Insert(slices.Clone(l), j, l[i]), false)
			}
		}
		// At the two ends.
		checkDistinct(t, append(slices.Clone(l), l[0]), false)
		checkDistinct(t, append(slices.Clone(l), l...), false)
	}
	for i := range size {
		checkDistinct(t, []api.Key{all[0], all[1], with(all[0], i, ^all[0][i])}, true)
	}
	checkDistinct(t, []api.Key{{}}, true)
	checkDistinct(t, []api.Key{{}, filled(1)}, true)
	checkDistinct(t, []api.Key{{}, filled(1), {}}, false)
	checkDistinct(t, []api.Key{filled(9), filled(9), filled(9)}, false)
	checkDistinct(t, samples(), true)
}

// P5.3: as many keys as a cache may have, in the order of Compare and in no order.
func TestDistinctMany(t *testing.T) {
	l := varied(api.MaxCache)
	for range 2 {
		checkDistinct(t, l, true)
		for _, i := range []int{0, 1, len(l) / 2, len(l) - 1} {
			checkDistinct(t, append(slices.Clone(l), l[i]), false)
			checkDistinct(t, append([]api.Key{l[i]}, l...), false)
		}
		slices.SortFunc(l, key.Compare)
	}
}

// R2: neither an argument nor what lies behind it in its array is changed.
func TestArgumentsStay(t *testing.T) {
	raw := []byte("a transaction and what lies behind it")
	rawBefore := bytes.Clone(raw)
	for n := range len(raw) + 1 {
		key.Of(raw[:n])
		key.Of(raw[n:])
	}
	if !bytes.Equal(raw, rawBefore) {
		t.Errorf("Of has changed its argument: %q", raw)
	}
	l := append(varied(9), varied(9)...)
	slices.Reverse(l)
	before := slices.Clone(l)
	for n := range len(l) + 1 {
		key.Distinct(l[:n])
		key.Distinct(l[n:])
		for _, k := range before {
			key.Has(l[:n], k)
			key.Has(l[n:], k)
		}
		key.Has(l[:n], api.Key{})
	}
	if !slices.Equal(l, before) {
		t.Error("Has or Distinct has changed its argument")
	}
	for _, k := range before {
		x, y := k, before[0]
		key.Compare(x, y)
		key.Format(x)
		if x != k || y != before[0] {
			t.Errorf("Compare or Format has changed %x", k)
		}
	}
}

// P5.1 to P5.3 with R3: the same calls give the same results, whatever was called between them.
func TestRepeated(t *testing.T) {
	raw, l := []byte("abc"), varied(20)
	k, s := key.Of(raw), text(sha256.Sum256([]byte("abc")))
	for range 3 {
		key.Of([]byte("abcd"))
		checkSyntax(t, s[1:])
		checkDistinct(t, append(slices.Clone(l), l[3]), false)
		if key.Of(raw) != k || key.Format(k) != s {
			t.Errorf("Of and Format = %x, %q", key.Of(raw), key.Format(k))
		}
		checkParse(t, s, k)
		checkHas(t, l, k, false)
		checkDistinct(t, l, true)
	}
}
