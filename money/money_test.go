package money_test

import (
	"math"
	"math/big"
	"slices"
	"testing"

	"mempool/money"
)

const top = math.MaxUint64

// samples returns numbers at which sums, products and quotients reach or just miss a limit.
func samples() []uint64 {
	return []uint64{
		0, 1, 2, 3, 7, 10, 1000, 1001,
		1<<31 - 1, 1 << 31, 1<<32 - 1, 1 << 32, 1<<32 + 1,
		1<<62 - 1, 1 << 62, 1<<63 - 1, 1 << 63, 1<<63 + 1,
		0x9e3779b97f4a7c15, 6148914691236517205, top - 1, top,
	}
}

func number(x uint64) *big.Int { return new(big.Int).SetUint64(x) }

// want turns an exact value into the results that the document promises for it.
func want(exact *big.Int) (uint64, bool) {
	if !exact.IsUint64() {
		return 0, false
	}
	return exact.Uint64(), true
}

type pair func(a, b uint64) (uint64, bool)

type pairCase struct {
	a, b, n uint64
	ok      bool
}

func checkPairs(t *testing.T, name string, f pair, cases []pairCase) {
	t.Helper()
	for _, x := range cases {
		if n, ok := f(x.a, x.b); n != x.n || ok != x.ok {
			t.Errorf("%s(%d, %d) = %d, %v; want %d, %v", name, x.a, x.b, n, ok, x.n, x.ok)
		}
	}
}

// checkExact compares a function with exact arithmetic at all pairs of samples.
func checkExact(t *testing.T, name string, f pair, exact func(a, b *big.Int) *big.Int) {
	t.Helper()
	for _, a := range samples() {
		for _, b := range samples() {
			n, ok := want(exact(number(a), number(b)))
			checkPairs(t, name, f, []pairCase{{a, b, n, ok}})
		}
	}
}

// P1.1
func TestAdd(t *testing.T) {
	checkPairs(t, "Add", money.Add, []pairCase{
		{2, 3, 5, true},
		{0, 0, 0, true},
		{top, 0, top, true},
		{0, top, top, true},
		{top - 1, 1, top, true},
		{1 << 63, 1<<63 - 1, top, true},
		// Example 1 of the chapter.
		{top, 1, 0, false},
		{1, top, 0, false},
		{1 << 63, 1 << 63, 0, false},
		{top, top, 0, false},
	})
	checkExact(t, "Add", money.Add, func(a, b *big.Int) *big.Int { return a.Add(a, b) })
}

// P1.1
func TestSub(t *testing.T) {
	checkPairs(t, "Sub", money.Sub, []pairCase{
		{5, 3, 2, true},
		{5, 5, 0, true},
		{0, 0, 0, true},
		{top, 0, top, true},
		{top, top, 0, true},
		{top, 1, top - 1, true},
		{0, 1, 0, false},
		{5, 6, 0, false},
		{0, top, 0, false},
		{top - 1, top, 0, false},
	})
	checkExact(t, "Sub", money.Sub, func(a, b *big.Int) *big.Int { return a.Sub(a, b) })
}

// P1.1
func TestMul(t *testing.T) {
	checkPairs(t, "Mul", money.Mul, []pairCase{
		{6, 7, 42, true},
		{0, 0, 0, true},
		{0, top, 0, true},
		{top, 0, 0, true},
		{1, top, top, true},
		{top, 1, top, true},
		{3, 6148914691236517205, top, true},
		{1<<32 - 1, 1<<32 + 1, top, true},
		{1 << 32, 1<<32 - 1, 1<<64 - 1<<32, true},
		{1 << 32, 1 << 32, 0, false},
		{1 << 63, 2, 0, false},
		{top, 2, 0, false},
		{top, top, 0, false},
		// The product modulo 2^64 is not less than its factors.
		{1<<32 + 1, 1<<32 + 1, 0, false},
	})
	checkExact(t, "Mul", money.Mul, func(a, b *big.Int) *big.Int { return a.Mul(a, b) })
}

// P1.2
func TestMulDiv(t *testing.T) {
	for _, x := range []struct {
		a, b, c, n uint64
		ok         bool
	}{
		{6, 7, 2, 21, true},
		// Rounding down, also just below the next integer.
		{7, 3, 2, 10, true},
		{1, 1, 2, 0, true},
		{1, top - 1, top, 0, true},
		{5, 0, 3, 0, true},
		{0, 0, 1, 0, true},
		// Examples 2 and 3 of the chapter.
		{1 << 63, 6, 4, 3 << 62, true},
		{1 << 63, 4, 2, 0, false},
		// A product of 128 bits.
		{top, top, top, top, true},
		{top, top, top - 1, 0, false},
		{top, top - 1, top, top - 1, true},
		{top, 1000, 1001, 18428315757951600014, true},
		// The greatest quotient, and one beyond: the products are 2^65 - 1, which leaves the greatest remainder, and 2^65.
		{top, 1, 1, top, true},
		{1 << 63, 2, 1, 0, false},
		{253921, 145295143558111, 2, top, true},
		{1 << 33, 1 << 32, 2, 0, false},
		{7, 7905747460161236406, 3, top - 1, true},
		{7, 7905747460161236407, 3, 0, false},
		// No quotient at all.
		{0, 0, 0, 0, false},
		{5, 0, 0, 0, false},
		{5, 1, 0, 0, false},
		{top, top, 0, 0, false},
	} {
		if n, ok := money.MulDiv(x.a, x.b, x.c); n != x.n || ok != x.ok {
			t.Errorf("MulDiv(%d, %d, %d) = %d, %v; want %d, %v", x.a, x.b, x.c, n, ok, x.n, x.ok)
		}
	}
}

// exactMulDiv returns what P1.2 promises, by exact arithmetic.
func exactMulDiv(a, b, c uint64) (uint64, bool) {
	if c == 0 {
		return 0, false
	}
	exact := new(big.Int).Mul(number(a), number(b))
	return want(exact.Div(exact, number(c)))
}

// P1.2
func TestMulDivExact(t *testing.T) {
	for _, a := range samples() {
		for _, b := range samples() {
			for _, c := range samples() {
				n, ok := money.MulDiv(a, b, c)
				if m, exists := exactMulDiv(a, b, c); n != m || ok != exists {
					t.Errorf("MulDiv(%d, %d, %d) = %d, %v; want %d, %v", a, b, c, n, ok, m, exists)
				}
			}
		}
	}
}

// P1.3
func TestSum(t *testing.T) {
	for _, x := range []struct {
		l  []uint64
		n  uint64
		ok bool
	}{
		{nil, 0, true},
		{[]uint64{}, 0, true},
		{[]uint64{0}, 0, true},
		{[]uint64{top}, top, true},
		{[]uint64{1, 2, 3}, 6, true},
		{[]uint64{0, top, 0}, top, true},
		{[]uint64{1, top - 1}, top, true},
		{[]uint64{1 << 63, 1 << 62, 1<<62 - 1}, top, true},
		{[]uint64{top, 1}, 0, false},
		{[]uint64{1, top}, 0, false},
		{[]uint64{1 << 63, 1 << 62, 1 << 62}, 0, false},
		// What follows an overflow does not undo it: modulo 2^64 these sums are 4, 0 and 2^64 - 3.
		{[]uint64{top, 1, 4}, 0, false},
		{[]uint64{1 << 63, 1 << 63, 1 << 63, 1 << 63}, 0, false},
		{[]uint64{top, top, top}, 0, false},
	} {
		if n, ok := money.Sum(x.l); n != x.n || ok != x.ok {
			t.Errorf("Sum(%d) = %d, %v; want %d, %v", x.l, n, ok, x.n, x.ok)
		}
	}
}

// P1.3
func TestSumExact(t *testing.T) {
	for _, a := range samples() {
		for _, b := range samples() {
			for _, c := range samples() {
				exact := number(a)
				exact.Add(exact, number(b)).Add(exact, number(c))
				m, exists := want(exact)
				if n, ok := money.Sum([]uint64{a, b, c}); n != m || ok != exists {
					t.Errorf("Sum of %d, %d, %d = %d, %v; want %d, %v", a, b, c, n, ok, m, exists)
				}
			}
		}
	}
}

// P1.3 with R2: the list, and what lies behind it in its array, stay as they are.
func TestSumKeepsList(t *testing.T) {
	array := []uint64{4, 5, 6, 7, 8}
	for _, most := range []int{2, 5} {
		if n, ok := money.Sum(array[:2:most]); n != 9 || !ok {
			t.Errorf("Sum of 4, 5 = %d, %v; want 9, true", n, ok)
		}
	}
	if !slices.Equal(array, []uint64{4, 5, 6, 7, 8}) {
		t.Errorf("Sum has changed its argument: %d", array)
	}
}

// P1.4
func TestMulDivUndone(t *testing.T) {
	for _, a := range samples() {
		for _, b := range samples() {
			n, ok := money.MulDiv(a, b, b)
			if b == 0 {
				if n != 0 || ok {
					t.Errorf("MulDiv(%d, 0, 0) = %d, %v; want 0, false", a, n, ok)
				}
				continue
			}
			if n != a || !ok {
				t.Errorf("MulDiv(%d, %d, %d) = %d, %v; want %d, true", a, b, b, n, ok, a)
			}
		}
	}
}

// P1.4
func TestMulDivSymmetric(t *testing.T) {
	for _, a := range samples() {
		for _, b := range samples() {
			for _, c := range samples() {
				n, ok := money.MulDiv(a, b, c)
				if m, also := money.MulDiv(b, a, c); n != m || ok != also {
					t.Errorf("MulDiv(%d, %d, %d) = %d, %v, but %d, %v with the factors exchanged", a, b, c, n, ok, m, also)
				}
			}
		}
	}
}
