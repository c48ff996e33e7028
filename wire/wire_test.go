package wire_test

import (
	"bytes"
	"encoding/binary"
	"math"
	"slices"
	"testing"

	"mempool/api"
	"mempool/varint"
	"mempool/wire"
)

const (
	top      = math.MaxUint64
	maxField = api.MaxField
)

// number returns a field of the Kind Varint.
func number(n int, value uint64) api.Field {
	return api.Field{Number: n, Kind: api.Varint, Value: value}
}

// text returns a field of the Kind Bytes.
func text(n int, s string) api.Field {
	return api.Field{Number: n, Kind: api.Bytes, Bytes: []byte(s)}
}

// fill returns n bytes c followed by tail.
func fill(n int, c byte, tail ...byte) []byte {
	return append(bytes.Repeat([]byte{c}, n), tail...)
}

// long returns a text of n bytes.
func long(n int) string {
	return string(fill(n, 'z'))
}

// join returns all parts one behind the other.
func join(parts ...[]byte) []byte {
	return slices.Concat(parts...)
}

func same(f, g api.Field) bool {
	return f.Number == g.Number && f.Kind == g.Kind && f.Value == g.Value && bytes.Equal(f.Bytes, g.Bytes)
}

// encoded is a field with its encoding.
type encoded struct {
	f api.Field
	b []byte
}

// encodings lists valid fields, with the Numbers, Values and lengths at which one more byte is needed.
func encodings() []encoded {
	return []encoded{
		// Examples 1 and 2 of the chapter.
		{number(1, 300), []byte{8, 172, 2}},
		{text(2, "ab"), []byte{18, 2, 97, 98}},
		{number(1, 0), []byte{8, 0}},
		{number(1, 127), []byte{8, 127}},
		{number(1, 128), []byte{8, 128, 1}},
		{number(3, 1<<63), append([]byte{24}, fill(9, 128, 1)...)},
		{number(3, top), append([]byte{24}, fill(9, 255, 1)...)},
		{number(15, 1), []byte{120, 1}},
		{number(16, 1), []byte{128, 1, 1}},
		{number(17, 1), []byte{136, 1, 1}},
		{number(2047, 5), []byte{248, 127, 5}},
		{number(2048, 5), []byte{128, 128, 1, 5}},
		{number(1<<18-1, 5), []byte{248, 255, 127, 5}},
		{number(1<<18, 5), []byte{128, 128, 128, 1, 5}},
		{number(1<<25-1, 5), []byte{248, 255, 255, 127, 5}},
		{number(1<<25, 5), []byte{128, 128, 128, 128, 1, 5}},
		{number(maxField-1, 9), []byte{240, 255, 255, 255, 15, 9}},
		{number(maxField, 9), []byte{248, 255, 255, 255, 15, 9}},
		{text(1, ""), []byte{10, 0}},
		{text(1, "\x00"), []byte{10, 1, 0}},
		{text(15, "c"), []byte{122, 1, 99}},
		{text(16, "c"), []byte{130, 1, 1, 99}},
		{text(maxField, "c"), []byte{250, 255, 255, 255, 15, 1, 99}},
		{text(4, long(127)), append([]byte{34, 127}, long(127)...)},
		{text(4, long(128)), append([]byte{34, 128, 1}, long(128)...)},
		{text(4, long(1<<14-1)), append([]byte{34, 255, 127}, long(1<<14-1)...)},
		{text(4, long(1<<14)), append([]byte{34, 128, 128, 1}, long(1<<14)...)},
		// Bytes that are themselves a message.
		{text(5, "\x08\xac\x02"), []byte{42, 3, 8, 172, 2}},
	}
}

// invalid lists fields that are not valid.
func invalid() []api.Field {
	l := []api.Field{
		{},
		{Number: 1, Kind: api.Varint, Value: 7, Bytes: []byte{0}},
		{Number: 1, Kind: api.Varint, Bytes: []byte("ab")},
		{Number: 1, Kind: api.Bytes, Value: 1},
		{Number: 1, Kind: api.Bytes, Value: top, Bytes: []byte("ab")},
		{Number: 1, Kind: api.Bytes, Value: 2, Bytes: []byte("ab")},
	}
	for _, n := range []int{math.MinInt, -maxField, -1, 0, maxField + 1, maxField + 2, 1 << 32, 1<<32 + 1, 1 << 61, 1<<61 + 1, math.MaxInt} {
		l = append(l, number(n, 1), text(n, "a"), text(n, ""))
	}
	for _, k := range []int{math.MinInt, -8, -2, -1, 1, 3, 4, 5, 6, 7, 8, 10, 16, 1 << 32, 1<<32 + 2, math.MaxInt} {
		l = append(l, api.Field{Number: 1, Kind: k}, api.Field{Number: 1, Kind: k, Value: 1}, api.Field{Number: 1, Kind: k, Bytes: []byte("a")})
	}
	return l
}

// message returns the encodings of fields, which have to be valid, one behind the other.
func message(t *testing.T, fields []api.Field) []byte {
	t.Helper()
	var b []byte
	for _, f := range fields {
		next, e := wire.Append(b, f)
		if e != api.OK {
			t.Fatalf("Append of %v = %d", f, e)
		}
		b = next
	}
	return b
}

// brief returns the beginning of b, for reports.
func brief(b []byte) []byte {
	return b[:min(len(b), 40)]
}

func checkFields(t *testing.T, b []byte, want []api.Field) {
	t.Helper()
	l, at, e := wire.Fields(b)
	if e != api.OK || at != 0 || !slices.EqualFunc(l, want, same) {
		t.Errorf("Fields(%d) = %d fields, %d, %d; want %d fields", brief(b), len(l), at, e, len(want))
	}
}

func checkError(t *testing.T, b []byte, at int, e api.Errno) {
	t.Helper()
	if l, i, f := wire.Fields(b); len(l) != 0 || i != at || f != e {
		t.Errorf("Fields(%d) = %d fields, %d, %d; want no fields, %d, %d", brief(b), len(l), i, f, at, e)
	}
}

// P3.1
func TestAppend(t *testing.T) {
	for _, x := range encodings() {
		for _, before := range [][]byte{nil, {}, {0}, {128}, {8, 172, 2}, []byte("before")} {
			b, e := wire.Append(before, x.f)
			if e != api.OK || !bytes.Equal(b, append(bytes.Clone(before), x.b...)) {
				t.Errorf("Append(%d, field %d) = %d, %d", before, x.f.Number, brief(b), e)
			}
		}
		if size := wire.Size(x.f); size != len(x.b) {
			t.Errorf("Size of field %d with %d bytes = %d", x.f.Number, len(x.b), size)
		}
	}
}

// P3.1: nil and empty Bytes are equivalent.
func TestAppendEmptyBytes(t *testing.T) {
	for _, empty := range [][]byte{nil, {}, make([]byte, 0, 9)} {
		for kind, want := range map[int][]byte{api.Varint: {8, 0}, api.Bytes: {10, 0}} {
			f := api.Field{Number: 1, Kind: kind, Bytes: empty}
			if b, e := wire.Append(nil, f); e != api.OK || !bytes.Equal(b, want) || wire.Size(f) != 2 {
				t.Errorf("Append of kind %d with empty bytes = %d, %d; its size is %d", kind, b, e, wire.Size(f))
			}
		}
	}
}

// P3.1
func TestAppendInvalid(t *testing.T) {
	for _, f := range invalid() {
		for _, before := range [][]byte{nil, []byte("before")} {
			if b, e := wire.Append(before, f); len(b) != 0 || e != api.ErrArgument {
				t.Errorf("Append(%d, %v) = %d, %d; want nothing, ErrArgument", before, f, b, e)
			}
		}
		if size := wire.Size(f); size != 0 {
			t.Errorf("Size(%v) = %d; want 0", f, size)
		}
	}
}

// P3.1 with R2: neither b, what lies behind it, nor the Bytes are changed, and the result is no part of them.
func TestAppendKeepsArguments(t *testing.T) {
	content := []byte("content!")
	fields := []api.Field{number(1, 300), {Number: 2, Kind: api.Bytes, Bytes: content[:7]}, {Number: 2, Kind: api.Bytes, Bytes: content[:0]}, {}}
	for _, f := range fields {
		for length := range 21 {
			array := []byte("0123456789abcdefghij")
			b, _ := wire.Append(array[:length], f)
			wire.Size(f)
			for i := range b[:cap(b)] {
				b[:cap(b)][i] ^= 255
			}
			if string(array) != "0123456789abcdefghij" || string(content) != "content!" {
				t.Errorf("Append of %v to %d bytes of an array has changed it or the Bytes, or shares memory with them", f, length)
			}
		}
	}
}

// P3.2
func TestFields(t *testing.T) {
	checkFields(t, nil, nil)
	checkFields(t, []byte{}, nil)
	var all []api.Field
	var b []byte
	for _, x := range encodings() {
		checkFields(t, x.b, []api.Field{x.f})
		all, b = append(all, x.f), append(b, x.b...)
		checkFields(t, b, all)
		// The order is that of the bytes, not that of the Numbers; and a Number may occur more than once.
		checkFields(t, join(x.b, []byte{18, 0, 8, 1}, x.b), []api.Field{x.f, text(2, ""), number(1, 1), x.f})
	}
}

// P3.2: a field that cannot be read, alone and behind others, whatever follows it.
func TestFieldsErrors(t *testing.T) {
	for _, x := range []struct {
		b []byte
		e api.Errno
	}{
		// The tag cannot be read: it could be shorter, or is greater than 2^64 - 1.
		{[]byte{136, 0, 1}, api.ErrEncoding},
		{[]byte{128, 0}, api.ErrEncoding},
		{[]byte{138, 128, 0, 1}, api.ErrEncoding},
		{fill(9, 136, 2), api.ErrOverflow},
		{fill(10, 128, 1), api.ErrOverflow},
		// The Number is 0 or greater than MaxField.
		{[]byte{0, 0}, api.ErrEncoding},
		{[]byte{0, 1}, api.ErrEncoding},
		{[]byte{2, 0}, api.ErrEncoding},
		{[]byte{2, 1, 97}, api.ErrEncoding},
		{[]byte{128, 128, 128, 128, 16, 0}, api.ErrEncoding},
		{[]byte{130, 128, 128, 128, 16, 0}, api.ErrEncoding},
		// A Number with 32 or more bits that would be valid if it was cut off.
		{varint.Append(nil, 8*(1<<32+1)), api.ErrEncoding},
		{varint.Append(nil, 8*(1<<60+1)), api.ErrEncoding},
		{fill(9, 248, 1), api.ErrEncoding},
		{fill(9, 128, 1), api.ErrEncoding},
		// The Kind is neither Varint nor Bytes.
		{[]byte{9, 0}, api.ErrEncoding},
		{[]byte{11, 0}, api.ErrEncoding},
		{[]byte{12, 0}, api.ErrEncoding},
		{[]byte{13, 0}, api.ErrEncoding},
		{[]byte{14, 0}, api.ErrEncoding},
		{[]byte{15, 0}, api.ErrEncoding},
		{[]byte{249, 255, 255, 255, 15, 0}, api.ErrEncoding},
		// Both the Number and the Kind are wrong.
		{[]byte{1}, api.ErrEncoding},
		{[]byte{7, 7}, api.ErrEncoding},
		// The value cannot be read.
		{[]byte{8, 128, 0}, api.ErrEncoding},
		{[]byte{8, 129, 128, 0}, api.ErrEncoding},
		{append([]byte{8}, fill(9, 128, 0)...), api.ErrEncoding},
		{append([]byte{8}, fill(9, 255, 2)...), api.ErrOverflow},
		// The length cannot be read.
		{[]byte{18, 128, 0}, api.ErrEncoding},
		{[]byte{18, 130, 0, 97, 98}, api.ErrEncoding},
		{append([]byte{18}, fill(9, 128, 0)...), api.ErrEncoding},
		{append([]byte{18}, fill(9, 255, 2)...), api.ErrOverflow},
		// The length is greater than any number of bytes, even of an int.
		{append([]byte{18}, fill(9, 255, 1)...), api.ErrTruncated},
		{append([]byte{18}, fill(9, 128, 1)...), api.ErrTruncated},
		{append([]byte{18}, fill(8, 255, 127)...), api.ErrTruncated},
		{append([]byte{18}, fill(4, 129, 127)...), api.ErrTruncated},
	} {
		for _, before := range [][]byte{nil, {8, 172, 2}, {18, 2, 97, 98}, {18, 2, 97, 98, 8, 0, 10, 0}} {
			for _, tail := range [][]byte{nil, {0}, {8, 0}, {255}, fill(20, 255), fill(300, 1)} {
				checkError(t, join(before, x.b, tail), len(before), x.e)
			}
		}
	}
}

// P3.2: a message that is cut off.
func TestFieldsTruncated(t *testing.T) {
	// Example 3 of the chapter.
	checkError(t, []byte{18, 2, 97}, 0, api.ErrTruncated)
	for _, x := range encodings() {
		for _, before := range []encoded{{number(9, 1), []byte{72, 1}}, {text(9, "xy"), []byte{74, 2, 120, 121}}} {
			b := join(before.b, x.b)
			checkFields(t, b[:len(before.b)], []api.Field{before.f})
			for i := 1; i < len(x.b); i++ {
				// What lies behind the end in the array does not count.
				checkError(t, x.b[:i], 0, api.ErrTruncated)
				checkError(t, b[:len(before.b)+i], len(before.b), api.ErrTruncated)
			}
		}
	}
	checkError(t, []byte{128}, 0, api.ErrTruncated)
	checkError(t, fill(9, 255), 0, api.ErrTruncated)
	checkError(t, []byte{18}, 0, api.ErrTruncated)
	checkError(t, []byte{18, 128}, 0, api.ErrTruncated)
	checkError(t, []byte{18, 1}, 0, api.ErrTruncated)
	checkError(t, []byte{8, 0, 18, 1}, 2, api.ErrTruncated)
	checkError(t, append([]byte{18, 201, 1}, fill(200, 9)...), 0, api.ErrTruncated)
}

// P3.2: of several errors of a field, the first one is returned.
func TestFieldsFirstError(t *testing.T) {
	// The error of the tag comes before those of its Number and its Kind.
	checkError(t, []byte{128}, 0, api.ErrTruncated)
	checkError(t, []byte{129, 129}, 0, api.ErrTruncated)
	checkError(t, fill(9, 129, 3), 0, api.ErrOverflow)
	// The Number or the Kind comes before the value or the length, which is cut off or too large.
	for _, tag := range [][]byte{{0}, {2}, {1}, {9}, {11}, {15}, {128, 128, 128, 128, 16}, {130, 128, 128, 128, 16}} {
		for _, tail := range [][]byte{nil, {128}, fill(10, 255), {200, 1}} {
			checkError(t, append(bytes.Clone(tag), tail...), 0, api.ErrEncoding)
		}
	}
	// The error of the length comes before what it counts.
	checkError(t, []byte{18, 255, 0}, 0, api.ErrEncoding)
	checkError(t, append([]byte{18}, fill(10, 255)...), 0, api.ErrOverflow)
	// The first field comes before the later ones.
	checkError(t, []byte{8, 0, 9, 0, 18, 255}, 2, api.ErrEncoding)
	checkError(t, []byte{8, 128, 0, 18, 2, 97}, 0, api.ErrEncoding)
}

// P3.2: MaxFields fields, and one more.
func TestFieldsLimit(t *testing.T) {
	for _, x := range []encoded{{number(1, 1), []byte{8, 1}}, {text(2, ""), []byte{18, 0}}, {text(3, "ab"), []byte{26, 2, 97, 98}}, {number(maxField, top), join([]byte{248, 255, 255, 255, 15}, fill(9, 255, 1))}} {
		b := bytes.Repeat(x.b, api.MaxFields)
		checkFields(t, b[:len(b)-len(x.b)], slices.Repeat([]api.Field{x.f}, api.MaxFields-1))
		checkFields(t, b, slices.Repeat([]api.Field{x.f}, api.MaxFields))
		// Whatever follows is one field too many, even if it is none.
		for _, tail := range [][]byte{{8, 1}, {18, 0}, {0}, {0, 1}, {9, 0}, {128}, {128, 0}, fill(10, 255), {8}, {18, 2, 97}, bytes.Repeat([]byte{8, 1}, 2000)} {
			checkError(t, join(b, tail), len(b), api.ErrLimit)
		}
		// An error of the last field that is allowed, or of an earlier one, comes first.
		last := b[:len(b)-len(x.b)]
		checkError(t, join(last, []byte{9, 0, 8, 1}), len(last), api.ErrEncoding)
		checkError(t, join(last, []byte{18, 2, 97}), len(last), api.ErrTruncated)
		checkError(t, join([]byte{8, 128, 0}, b), 0, api.ErrEncoding)
	}
}

// P3.2 with R2: Fields changes neither b nor what lies behind it, and the Bytes are no part of b or of each other.
func TestFieldsKeepsArgument(t *testing.T) {
	array := []byte{18, 2, 97, 98, 18, 0, 26, 3, 99, 100, 101, 8, 1, 18, 9, 9}
	before := bytes.Clone(array)
	for length := range len(array) + 1 {
		l, _, e := wire.Fields(array[:length])
		if length == 13 && (len(l) != 4 || e != api.OK) {
			t.Errorf("Fields of the message with 4 fields = %v, %d", l, e)
		}
		for i := range l {
			all := l[i].Bytes[:cap(l[i].Bytes)]
			for j := range all {
				all[j] ^= 255
			}
			for k := i + 1; k < len(l); k++ {
				if g, _, _ := wire.Fields(array[:length]); !bytes.Equal(l[k].Bytes, g[k].Bytes) {
					t.Errorf("the Bytes of fields %d and %d share memory", i, k)
				}
			}
		}
		if !bytes.Equal(array, before) {
			t.Errorf("Fields has changed its argument, or its result shares memory with it: %d", array)
		}
	}
}

// P3.3
func TestSizeBytes(t *testing.T) {
	for n, want := range map[int]int{
		math.MinInt: 0, -1 << 40: 0, -128: 0, -2: 0, -1: 0,
		0: 2, 1: 3, 2: 4, 126: 128, 127: 129, 128: 131, 129: 132,
		1<<14 - 1: 1<<14 + 2, 1 << 14: 1<<14 + 4, 1<<21 - 1: 1<<21 + 3, 1 << 21: 1<<21 + 5,
		1<<28 - 1: 1<<28 + 4, 1 << 28: 1<<28 + 6, 1<<35 - 1: 1<<35 + 5, 1 << 35: 1<<35 + 7, 1 << 40: 1<<40 + 7,
	} {
		if size := wire.SizeBytes(n); size != want {
			t.Errorf("SizeBytes(%d) = %d; want %d", n, size, want)
		}
	}
	for n := range 400 {
		for _, number := range []int{1, 2, 15} {
			b, e := wire.Append(nil, text(number, long(n)))
			if size := wire.SizeBytes(n); e != api.OK || size != len(b) || size != wire.Size(text(number, long(n))) {
				t.Errorf("SizeBytes(%d) = %d; field %d with as many Bytes takes %d", n, size, number, len(b))
			}
		}
	}
}

// P3.4
func TestFieldsOfAppended(t *testing.T) {
	var all []api.Field
	for _, x := range encodings() {
		all = append(all, x.f)
	}
	for i, n := range []int{1, 2, 7, 15, 16, 2047, 2048, 1 << 20, maxField - 1, maxField} {
		all = append(all, text(n, long(i)))
		for bit := range 64 {
			all = append(all, number(n, 1<<bit-1), number(n, 1<<bit))
		}
	}
	for i := range all {
		checkFields(t, message(t, all[i:i+1]), all[i:i+1])
	}
	for len(all) > 0 {
		part := all[:min(len(all), api.MaxFields)]
		checkFields(t, message(t, part), part)
		all = all[len(part):]
	}
	most := slices.Repeat([]api.Field{number(1, 1), text(2, "ab")}, api.MaxFields/2)
	checkFields(t, message(t, most), most)
}

// checkAppended checks that appending the fields of b, if it is a message, gives b again.
func checkAppended(t *testing.T, b []byte) (ok bool) {
	t.Helper()
	l, at, e := wire.Fields(b)
	if e != api.OK {
		if len(l) != 0 || at < 0 || at >= len(b) {
			t.Errorf("Fields(%d) = %d fields, %d, %d", brief(b), len(l), at, e)
		}
		return false
	}
	if again := message(t, l); !bytes.Equal(again, b) || len(l) > api.MaxFields || at != 0 {
		t.Errorf("the %d fields of %d give %d", len(l), brief(b), brief(again))
	}
	return true
}

// P3.4: messages in which one byte is changed, left out or doubled.
func TestAppendedFieldsChanged(t *testing.T) {
	for _, x := range encodings() {
		b := join([]byte{74, 1, 7}, x.b[:min(len(x.b), 12)], []byte{8, 1})
		for i := range b {
			for c := range 256 {
				changed := bytes.Clone(b)
				changed[i] = byte(c)
				checkAppended(t, changed)
			}
			checkAppended(t, slices.Delete(bytes.Clone(b), i, i+1))
			checkAppended(t, slices.Insert(bytes.Clone(b), i, b[i]))
		}
	}
}

// letters are the bytes of the words that are compared with the definition.
var letters = []byte{0, 1, 2, 8, 9, 10, 128, 129, 130}

// varints lists the varints of at most most letters, each of them as package binary writes its number.
func varints(most int) (l []struct {
	n uint64
	b []byte
}) {
	for length := 1; length <= most; length++ {
		for _, word := range endings(nil, length) {
			n, size := binary.Uvarint(word)
			if size == length && bytes.Equal(binary.AppendUvarint(nil, n), word) {
				l = append(l, struct {
					n uint64
					b []byte
				}{n, word})
			}
		}
	}
	return l
}

// definition returns the encodings of the valid fields that have at most most bytes, all of them letters, written without packages varint and wire.
func definition(most int) (found [][]byte) {
	for _, tag := range varints(most) {
		if tag.n < 8 || tag.n/8 > maxField || tag.n%8 != 0 && tag.n%8 != 2 {
			continue
		}
		for _, second := range varints(most - len(tag.b)) {
			b := append(bytes.Clone(tag.b), second.b...)
			if tag.n%8 == 0 {
				found = append(found, b)
			} else if second.n <= uint64(most-len(b)) {
				found = append(found, endings(b, int(second.n))...)
			}
		}
	}
	return found
}

// endings returns b followed by each of the words of n letters.
func endings(b []byte, n int) [][]byte {
	if n == 0 {
		return [][]byte{b}
	}
	var l [][]byte
	for _, c := range letters {
		l = append(l, endings(append(bytes.Clone(b), c), n-1)...)
	}
	return l
}

// messages returns the set of all messages of at most most bytes that consist of the given encodings of fields.
func messages(fields [][]byte, most int) map[string]bool {
	set := map[string]bool{"": true}
	ends := []string{""}
	for len(ends) > 0 {
		before := ends[0]
		ends = ends[1:]
		for _, f := range fields {
			next := before + string(f)
			if len(next) <= most && !set[next] {
				set[next] = true
				ends = append(ends, next)
			}
		}
	}
	return set
}

// P3.2 and P3.4: Fields finds a message just where there is one.
func TestFieldsByDefinition(t *testing.T) {
	const most = 5
	set := messages(definition(most), most)
	count := 0
	for length := range most + 1 {
		for _, word := range endings(nil, length) {
			ok := checkAppended(t, word)
			if ok != set[string(word)] {
				t.Fatalf("Fields finds a message in %d: %v; by the definition it is %v", word, ok, set[string(word)])
			}
			if ok {
				count++
			}
		}
	}
	if count != len(set) || count < 100 {
		t.Errorf("Fields finds %d messages; by the definition there are %d", count, len(set))
	}
}
