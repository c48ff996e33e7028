package varint_test

import (
	"bytes"
	"encoding/binary"
	"math"
	"math/big"
	"testing"

	"mempool/api"
	"mempool/varint"
)

const top = math.MaxUint64

// samples returns numbers around all those at which one more bit, and so at times one more byte, is needed.
func samples() []uint64 {
	l := []uint64{0, 5, 300, 1000000, 0x9e3779b97f4a7c15, 0x0123456789abcdef, 0xaaaaaaaaaaaaaaaa, 0x5555555555555555, top - 1, top}
	for i := range 64 {
		l = append(l, 1<<i-1, 1<<i, 1<<i+1)
	}
	return l
}

// fill returns n bytes c followed by tail.
func fill(n int, c byte, tail ...byte) []byte {
	return append(bytes.Repeat([]byte{c}, n), tail...)
}

// encodings lists numbers with their encodings: the least and the greatest one of each size, and others.
func encodings() []struct {
	n uint64
	b []byte
} {
	return []struct {
		n uint64
		b []byte
	}{
		{0, []byte{0}},
		{1, []byte{1}},
		{127, []byte{127}},
		{128, []byte{128, 1}},
		{129, []byte{129, 1}},
		{255, []byte{255, 1}},
		{256, []byte{128, 2}},
		// Example 1 of the chapter.
		{300, []byte{172, 2}},
		{1<<14 - 1, []byte{255, 127}},
		{1 << 14, []byte{128, 128, 1}},
		{1<<21 - 1, fill(2, 255, 127)},
		{1 << 21, fill(3, 128, 1)},
		{1<<28 - 1, fill(3, 255, 127)},
		{1 << 28, fill(4, 128, 1)},
		{1<<35 - 1, fill(4, 255, 127)},
		{1 << 35, fill(5, 128, 1)},
		{1<<42 - 1, fill(5, 255, 127)},
		{1 << 42, fill(6, 128, 1)},
		{1<<49 - 1, fill(6, 255, 127)},
		{1 << 49, fill(7, 128, 1)},
		{1<<56 - 1, fill(7, 255, 127)},
		{1 << 56, fill(8, 128, 1)},
		{1<<63 - 1, fill(8, 255, 127)},
		{1 << 63, fill(9, 128, 1)},
		{1<<63 + 1, append([]byte{129}, fill(8, 128, 1)...)},
		{top - 1, append([]byte{254}, fill(8, 255, 1)...)},
		{top, fill(9, 255, 1)},
		// Each group has another value, so none can take the place of another one.
		{0x0123456789abcdef, []byte{0xef, 0x9b, 0xaf, 0xcd, 0xf8, 0xac, 0xd1, 0x91, 0x01}},
	}
}

func checkRead(t *testing.T, b []byte, n uint64, size int, e api.Errno) {
	t.Helper()
	if m, s, f := varint.Read(b); m != n || s != size || f != e {
		t.Errorf("Read(%d) = %d, %d, %d; want %d, %d, %d", b, m, s, f, n, size, e)
	}
}

// P2.1
func TestAppend(t *testing.T) {
	for _, x := range encodings() {
		for _, before := range [][]byte{nil, {}, {0}, {128}, []byte("before")} {
			want := append(bytes.Clone(before), x.b...)
			if b := varint.Append(before, x.n); !bytes.Equal(b, want) {
				t.Errorf("Append(%d, %d) = %d; want %d", before, x.n, b, want)
			}
		}
	}
	for _, n := range samples() {
		if b, want := varint.Append(nil, n), binary.AppendUvarint(nil, n); !bytes.Equal(b, want) {
			t.Errorf("Append(nil, %d) = %d; want %d", n, b, want)
		}
	}
}

// P2.1
func TestSize(t *testing.T) {
	for _, x := range encodings() {
		if size := varint.Size(x.n); size != len(x.b) {
			t.Errorf("Size(%d) = %d; want %d", x.n, size, len(x.b))
		}
	}
	for _, n := range samples() {
		if size, want := varint.Size(n), len(binary.AppendUvarint(nil, n)); size != want {
			t.Errorf("Size(%d) = %d; want %d", n, size, want)
		}
	}
	// Example 3 of the chapter.
	if size := varint.Size(top); size != 10 {
		t.Errorf("Size of 2^64 - 1 = %d; want 10", size)
	}
}

// P2.1 with R2: what lies behind b in its array stays as it is, and the result is no part of this array.
func TestAppendKeepsArgument(t *testing.T) {
	for _, n := range []uint64{0, 300, top} {
		for length := range 13 {
			array := []byte("0123456789ab")
			b := varint.Append(array[:length], n)
			if string(array) != "0123456789ab" {
				t.Errorf("Append to %d bytes of an array with 12 has changed it: %q", length, array)
			}
			for i := range b {
				b[i] ^= 255
			}
			if string(array) != "0123456789ab" {
				t.Errorf("the result of Append to %d bytes of an array with 12 shares memory with it: %q", length, array)
			}
		}
	}
}

// P2.1 with R2: two results from the same argument share no memory.
func TestAppendTwice(t *testing.T) {
	room := make([]byte, 1, 64)
	first, second := varint.Append(room, 300), varint.Append(room, 7)
	again := append(first, 1)
	if varint.Append(first, 2); !bytes.Equal(again, []byte{0, 172, 2, 1}) {
		t.Errorf("Append has written behind an earlier result: %d", again)
	}
	if !bytes.Equal(first, []byte{0, 172, 2}) || !bytes.Equal(second, []byte{0, 7}) {
		t.Errorf("Append of 300 and of 7 to the same slice = %d, %d", first, second)
	}
}

// P2.2
func TestRead(t *testing.T) {
	for _, x := range encodings() {
		checkRead(t, x.b, x.n, len(x.b), api.OK)
	}
}

// P2.2: an encoding that is cut off.
func TestReadTruncated(t *testing.T) {
	checkRead(t, nil, 0, 0, api.ErrTruncated)
	checkRead(t, []byte{}, 0, 0, api.ErrTruncated)
	// Example 2 of the chapter.
	checkRead(t, []byte{128}, 0, 0, api.ErrTruncated)
	for _, x := range encodings() {
		for i := range x.b {
			// What lies behind the end in the array does not count.
			checkRead(t, x.b[:i], 0, 0, api.ErrTruncated)
		}
	}
	for i := range 10 {
		checkRead(t, fill(i, 128), 0, 0, api.ErrTruncated)
		checkRead(t, fill(i, 255), 0, 0, api.ErrTruncated)
	}
}

// P2.2: an encoding that could be shorter.
func TestReadLonger(t *testing.T) {
	checkRead(t, []byte{0, 0}, 0, 1, api.OK)
	// Example 2 of the chapter.
	checkRead(t, []byte{128, 0}, 0, 0, api.ErrEncoding)
	checkRead(t, []byte{129, 0}, 0, 0, api.ErrEncoding)
	checkRead(t, []byte{128, 128, 0}, 0, 0, api.ErrEncoding)
	for i := 1; i < 10; i++ {
		for _, c := range []byte{128, 255} {
			checkRead(t, fill(i, c, 0), 0, 0, api.ErrEncoding)
			checkRead(t, fill(i, c, 0, 1), 0, 0, api.ErrEncoding)
		}
		// Groups of zeros before the last one are needed.
		checkRead(t, fill(i, 128, 1), 1<<(7*i), i+1, api.OK)
	}
}

// P2.2: all bytes with the index 9.
func TestReadTenth(t *testing.T) {
	for c := range 256 {
		tenth := byte(c)
		for _, tail := range [][]byte{nil, {0}, {1}, {128, 0}, {255, 255, 255}} {
			low, high := append(fill(9, 128, tenth), tail...), append(fill(9, 255, tenth), tail...)
			switch tenth {
			case 0:
				checkRead(t, low, 0, 0, api.ErrEncoding)
				checkRead(t, high, 0, 0, api.ErrEncoding)
			case 1:
				checkRead(t, low, 1<<63, 10, api.OK)
				checkRead(t, high, top, 10, api.OK)
			default:
				checkRead(t, low, 0, 0, api.ErrOverflow)
				checkRead(t, high, 0, 0, api.ErrOverflow)
			}
		}
	}
	checkRead(t, fill(20, 255), 0, 0, api.ErrOverflow)
	checkRead(t, fill(20, 128), 0, 0, api.ErrOverflow)
}

// P2.2: of two errors, the one at the byte with the lower index is returned.
func TestReadFirstError(t *testing.T) {
	// The 0 comes before the end, which is missing, and before the byte with the index 9.
	checkRead(t, []byte{128, 0, 128}, 0, 0, api.ErrEncoding)
	checkRead(t, append([]byte{128, 0}, fill(7, 255, 2)...), 0, 0, api.ErrEncoding)
	checkRead(t, append(fill(8, 255, 0), 255), 0, 0, api.ErrEncoding)
	// The byte with the index 9 comes before a later 0, and before the end.
	checkRead(t, fill(9, 128, 128, 0), 0, 0, api.ErrOverflow)
	checkRead(t, fill(9, 255, 129), 0, 0, api.ErrOverflow)
	checkRead(t, fill(9, 255, 2, 0), 0, 0, api.ErrOverflow)
}

// byDefinition returns the number whose encoding is a prefix of b, and whether there is one.
func byDefinition(b []byte) (n uint64, size int, ok bool) {
	exact := new(big.Int)
	for i, c := range b {
		digit := big.NewInt(int64(c & 127))
		exact.Add(exact, digit.Lsh(digit, uint(7*i)))
		if !exact.IsUint64() {
			return 0, 0, false
		}
		if bytes.Equal(binary.AppendUvarint(nil, exact.Uint64()), b[:i+1]) {
			return exact.Uint64(), i + 1, true
		}
	}
	return 0, 0, false
}

// words calls visit with all words of at most most of the bytes of letters.
func words(most int, letters []byte, visit func(word []byte)) {
	var extend func(word []byte)
	extend = func(word []byte) {
		visit(word)
		if len(word) == most {
			return
		}
		for _, c := range letters {
			extend(append(bytes.Clone(word), c))
		}
	}
	extend(nil)
}

// P2.2: Read finds an encoding just where there is one.
func TestReadByDefinition(t *testing.T) {
	words(4, []byte{0, 1, 2, 127, 128, 129, 255}, func(word []byte) {
		for _, before := range [][]byte{nil, fill(3, 170), fill(6, 128), fill(7, 255), fill(8, 213), fill(9, 255)} {
			b := append(bytes.Clone(before), word...)
			n, size, ok := byDefinition(b)
			if m, s, e := varint.Read(b); m != n || s != size || (e == api.OK) != ok {
				t.Errorf("Read(%d) = %d, %d, %d; by the definition it is %d, %d, %v", b, m, s, e, n, size, ok)
			}
		}
	})
}

// P2.2 with R2: Read changes neither b nor what lies behind it.
func TestReadKeepsArgument(t *testing.T) {
	for _, array := range [][]byte{{172, 2, 9, 9}, {128, 0, 9}, fill(12, 255)} {
		before := bytes.Clone(array)
		for length := range len(array) + 1 {
			varint.Read(array[:length])
		}
		if !bytes.Equal(array, before) {
			t.Errorf("Read has changed its argument %d to %d", before, array)
		}
	}
}

// P2.3
func TestReadAppended(t *testing.T) {
	for _, n := range samples() {
		for _, tail := range [][]byte{nil, {0}, {1}, {127}, {128}, {255}, {0, 0}, {128, 0}, fill(20, 255), []byte("more")} {
			b := append(varint.Append(nil, n), tail...)
			checkRead(t, b, n, varint.Size(n), api.OK)
		}
	}
}

// P2.3
func TestReadSequence(t *testing.T) {
	var b []byte
	for _, n := range samples() {
		b = varint.Append(b, n)
	}
	for _, n := range samples() {
		m, size, e := varint.Read(b)
		if m != n || size != varint.Size(n) || e != api.OK {
			t.Fatalf("Read of the encoding of %d among others = %d, %d, %d", n, m, size, e)
		}
		b = b[size:]
	}
	checkRead(t, b, 0, 0, api.ErrTruncated)
}

// P2.3
func TestNoEncodingBeginsAnother(t *testing.T) {
	for _, n := range samples() {
		for _, m := range samples() {
			if a, b := varint.Append(nil, n), varint.Append(nil, m); n != m && bytes.HasPrefix(a, b) {
				t.Errorf("the encoding %d of %d begins with the encoding %d of %d", a, n, b, m)
			}
		}
	}
}
