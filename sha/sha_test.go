package sha_test

import (
	"bytes"
	"crypto/sha256"
	"encoding/hex"
	"slices"
	"strings"
	"testing"

	"mempool/api"
	"mempool/sha"
)

const (
	block = 64
	// most is the length of the messages that are divided: several blocks and a part of one.
	most = 5*block + 7
)

// varied returns n bytes without a period that fits a block, so that no byte can take the place of another one.
func varied(n int) []byte {
	b := make([]byte, n)
	x := uint32(1)
	for i := range b {
		x = x*1664525 + 1013904223
		b[i] = byte(x >> 24)
	}
	return b
}

// digest returns the key with the text s.
func digest(t *testing.T, s string) (k api.Key) {
	t.Helper()
	b, err := hex.DecodeString(s)
	if err != nil || len(b) != len(k) {
		t.Fatalf("%q is no text of a digest", s)
	}
	copy(k[:], b)
	return k
}

// want returns the digest of b as the standard library computes it.
func want(b []byte) api.Key {
	return sha256.Sum256(b)
}

// check checks what d says of its message, twice, because neither Sum nor Len may change it.
func check(t *testing.T, d *sha.Digest, message []byte) {
	t.Helper()
	for range 2 {
		if k := d.Sum(); k != want(message) {
			t.Errorf("Sum behind %d bytes = %x; want %x", len(message), k, want(message))
		}
		if n := d.Len(); n != len(message) {
			t.Errorf("Len behind %d bytes = %d", len(message), n)
		}
	}
}

// checkParts writes the parts to a Digest and checks it once at the end; and to another one that is checked behind each of them.
func checkParts(t *testing.T, parts ...[]byte) {
	t.Helper()
	quiet, asked := sha.New(), sha.New()
	var message []byte
	for _, p := range parts {
		quiet.Write(p)
		asked.Write(p)
		message = append(message, p...)
		check(t, asked, message)
	}
	check(t, quiet, message)
	if k := sha.Sum(message); k != quiet.Sum() {
		t.Errorf("Sum of %d bytes in one = %x, in parts = %x", len(message), k, quiet.Sum())
	}
}

// P4.1: the digests that the standard names, in one part and in parts of one byte.
func TestSumOfStandard(t *testing.T) {
	for _, x := range []struct{ message, text string }{
		{"", "e3b0c44298fc1c149afbf4c8996fb92427ae41e4649b934ca495991b7852b855"},
		{"abc", "ba7816bf8f01cfea414140de5dae2223b00361a396177a9cb410ff61f20015ad"},
		{"abcdbcdecdefdefgefghfghighijhijkijkljklmklmnlmnomnopnopq", "248d6a61d20638b8e5c026930c3e6039a33ce45964ff2167f6ecedd419db06c1"},
		{"abcdefghbcdefghicdefghijdefghijkefghijklfghijklmghijklmnhijklmnoijklmnopjklmnopqklmnopqrlmnopqrsmnopqrstnopqrstu", "cf5b16a778af8380036ce59e7b0492370b249b11e8f07a51afac45037afee9d1"},
		{strings.Repeat("a", 1000000), "cdc76e5c9914fb9281a1c7e284d73e67f1809a48a497200e046d39ccc7112cd0"},
		{"\xbd", "68325720aabd7c82f30f554b313d0570c95accbb7dc4b5aae11204c08ffe732b"},
		{"\xc9\x8c\x8e\x55", "7abc22c0ae5af26ce93dbb94433a0e0b2e119d014f8e7f65bd56c61ccccd9504"},
	} {
		k := digest(t, x.text)
		if got := sha.Sum([]byte(x.message)); got != k {
			t.Errorf("Sum of %d bytes = %x; want %x", len(x.message), got, k)
		}
		d := sha.New()
		for i := range len(x.message) {
			d.Write([]byte{x.message[i]})
		}
		if got := d.Sum(); got != k || d.Len() != len(x.message) {
			t.Errorf("Sum of %d bytes one by one = %x, Len = %d; want %x", len(x.message), got, d.Len(), k)
		}
	}
}

// The examples of the chapter.
func TestExamples(t *testing.T) {
	empty, abc := sha.Sum(nil), sha.Sum([]byte("abc"))
	if !bytes.HasPrefix(empty[:], []byte{0xe3, 0xb0, 0xc4, 0x42}) {
		t.Errorf("example 1: %x", empty)
	}
	if !bytes.HasPrefix(abc[:], []byte{0xba, 0x78, 0x16, 0xbf}) {
		t.Errorf("example 2: %x", abc)
	}
	d := sha.New()
	d.Write([]byte("a"))
	d.Write([]byte("bc"))
	if d.Sum() != abc || d.Len() != 3 {
		t.Errorf("example 3: %x, %d", d.Sum(), d.Len())
	}
}

// P4.1: messages of every length up to several blocks; behind 55 bytes of a block the padding needs another one.
func TestSumOfEveryLength(t *testing.T) {
	message := varied(most)
	for n := range most + 1 {
		for _, b := range [][]byte{message[:n], message[most-n:], bytes.Repeat([]byte{0}, n), bytes.Repeat([]byte{128}, n), bytes.Repeat([]byte{255}, n)} {
			if k := sha.Sum(b); k != want(b) {
				t.Errorf("Sum of %d bytes = %x; want %x", n, k, want(b))
			}
		}
	}
	for _, n := range []int{1 << 10, 4096 - 9, 4096 - 8, 4096, 1<<13 - 1, 1 << 13, 1 << 16, 1<<21 - 1, 1 << 21} {
		if b := varied(n); sha.Sum(b) != want(b) {
			t.Errorf("Sum of %d bytes = %x; want %x", n, sha.Sum(b), want(b))
		}
	}
}

// P4.1: every bit of a message counts, whatever its place.
func TestSumOfSingleBits(t *testing.T) {
	for _, n := range []int{1, 55, 56, block, 2*block + 1} {
		for bit := range 8 * n {
			b := make([]byte, n)
			b[bit/8] = 1 << (bit % 8)
			if k := sha.Sum(b); k != want(b) {
				t.Errorf("Sum of %d bytes with the bit %d = %x; want %x", n, bit, k, want(b))
			}
		}
	}
}

// P4.1: a message with so many bits that their number needs more than 32.
func TestSumOfLongMessage(t *testing.T) {
	part := varied(1 << 20)
	d, standard := sha.New(), sha256.New()
	for range 1 << 9 {
		d.Write(part)
		standard.Write(part)
	}
	d.Write(part[:11])
	standard.Write(part[:11])
	if k := d.Sum(); !bytes.Equal(k[:], standard.Sum(nil)) || d.Len() != 1<<29+11 {
		t.Errorf("Sum of 2^29 + 11 bytes = %x, Len = %d; want %x", k, d.Len(), standard.Sum(nil))
	}
}

// P4.1: nil and empty slices are equivalent.
func TestSumOfNothing(t *testing.T) {
	for _, empty := range [][]byte{nil, {}, make([]byte, 0, 9), varied(9)[9:], varied(9)[:0]} {
		if k := sha.Sum(empty); k != want(nil) {
			t.Errorf("Sum of no bytes = %x; want %x", k, want(nil))
		}
	}
}

// P4.1 and P4.2 with R2: neither b nor what lies behind it is changed.
func TestArgumentsStay(t *testing.T) {
	array := varied(most)
	before := bytes.Clone(array)
	for n := range most + 1 {
		sha.Sum(array[:n])
		d := sha.New()
		d.Write(array[n:])
		d.Write(array[:n])
		d.Sum()
	}
	if !bytes.Equal(array, before) {
		t.Error("Sum or Write has changed its argument")
	}
}

// P4.2
func TestNew(t *testing.T) {
	check(t, sha.New(), nil)
	// What is written to one Digest is not in the next one.
	sha.New().Write(varied(most))
	check(t, sha.New(), nil)
	checkParts(t)
	checkParts(t, nil)
	checkParts(t, nil, []byte{}, nil)
}

// P4.2: Sum and Len behind every byte change nothing, also where a block or its padding ends.
func TestSumBetweenBytes(t *testing.T) {
	message := varied(most)
	d := sha.New()
	for n := range message {
		check(t, d, message[:n])
		d.Write(message[n : n+1])
	}
	check(t, d, message)
}

// P4.2: a slice that changes behind Write is not kept.
func TestWriteKeepsNothing(t *testing.T) {
	for _, n := range []int{1, 3, 55, 56, block - 1, block, block + 1, 2 * block, 3*block - 1} {
		message := varied(2 * n)
		buffer := make([]byte, n, most)
		d := sha.New()
		for part := range slices.Chunk(message, n) {
			copy(buffer, part)
			d.Write(buffer)
			for i := range buffer[:most] {
				buffer[:most][i] ^= 255
			}
		}
		check(t, d, message)
	}
}

// P4.2: a digest that was returned is not changed by later calls.
func TestSumStays(t *testing.T) {
	d := sha.New()
	d.Write([]byte("abc"))
	k := d.Sum()
	d.Write([]byte("d"))
	if later := d.Sum(); k != want([]byte("abc")) || later != want([]byte("abcd")) {
		t.Errorf("Sum = %x, and behind one more byte %x", k, later)
	}
}

// P4.2: the methods of a nil Digest.
func TestNil(t *testing.T) {
	var d *sha.Digest
	for _, b := range [][]byte{nil, {}, []byte("x"), varied(most)} {
		d.Write(b)
		if d.Sum() != (api.Key{}) || d.Len() != 0 || d != nil {
			t.Errorf("a nil Digest behind Write of %d bytes: %x, %d", len(b), d.Sum(), d.Len())
		}
	}
	check(t, sha.New(), nil)
}

// P4.3: two parts, divided at every place of messages of many lengths, with and without empty parts around them.
func TestTwoParts(t *testing.T) {
	message := varied(3*block + 1)
	for _, n := range []int{1, 55, 56, 57, block - 1, block, block + 1, 2*block - 9, 2*block - 8, 2 * block, len(message)} {
		for i := range n + 1 {
			checkParts(t, message[:i], message[i:n])
			checkParts(t, nil, message[:i], nil, []byte{}, message[i:n], nil)
		}
	}
}

// P4.3: three parts, divided within a block, at its end, and where its padding would end.
func TestThreeParts(t *testing.T) {
	message := varied(most)
	places := []int{0, 1, 31, 55, 56, 57, 63, 64, 65, 100, 119, 120, 127, 128, 129, 191, 192, 193, 255, 256, 257, most - 1, most}
	for i, a := range places {
		for _, b := range places[i:] {
			checkParts(t, message[:a], message[a:b], message[b:])
		}
	}
}

// P4.3: parts of the same length, for every length.
func TestEqualParts(t *testing.T) {
	message := varied(most)
	for n := 1; n <= most; n++ {
		checkParts(t, slices.Collect(slices.Chunk(message, n))...)
	}
}

// P4.3: parts of lengths that change, among them 0, one and several blocks.
func TestMixedParts(t *testing.T) {
	lengths := []int{0, 1, block, block - 1, 0, 2, 2 * block, block + 1, 7, 3*block + 5, 0, 56, 8, 9, 120}
	for round := range 2 * len(lengths) {
		message := varied(1500 + round)
		var parts [][]byte
		for i := 0; len(message) > 0; i++ {
			n := min(lengths[(i*(1+round%2)+round)%len(lengths)], len(message))
			parts = append(parts, message[:n])
			message = message[n:]
		}
		checkParts(t, parts...)
	}
}

// P4.3: two Digests whose calls alternate.
func TestTwoDigests(t *testing.T) {
	message := varied(most)
	for _, n := range []int{1, 5, 55, 56, block - 1, block, block + 1, 100} {
		one, other := sha.New(), sha.New()
		var written, turned []byte
		for part := range slices.Chunk(message, n) {
			back := bytes.Clone(part)
			slices.Reverse(back)
			one.Write(part)
			written = append(written, part...)
			check(t, other, turned)
			check(t, one, written)
			other.Write(back[1:])
			turned = append(turned, back[1:]...)
			check(t, one, written)
			check(t, other, turned)
		}
	}
}
