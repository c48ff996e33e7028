package gas_test

import (
	"math"
	"math/big"
	"slices"
	"testing"

	"mempool/gas"
)

const top = math.MaxUint64

// least is the argument from which on Used counts no more.
const least = 1 << 30

func number(x uint64) *big.Int { return new(big.Int).SetUint64(x) }

// samples returns fees, amounts of gas and prices at which products and quotients reach or just miss a limit.
func samples() []uint64 {
	return []uint64{
		0, 1, 2, 3, 7, 50, 190, 999, 1000, 1001, 1999, 2000, 2001,
		1<<31 - 1, 1 << 31, 1<<32 - 1, 1 << 32, 1<<32 + 1,
		// The greatest fee of which 1000 times is below 2^64, and the next one.
		top / 1000, top/1000 + 1,
		6148914691236517205, 1<<62 - 1, 1 << 62, 0x9e3779b97f4a7c15,
		1<<63 - 1, 1 << 63, 1<<63 + 1, top - 1000, top - 1, top,
	}
}

// P12.1
func TestUsed(t *testing.T) {
	for _, x := range []struct {
		size, transfers int
		want            uint64
	}{
		// Example 1 of the chapter.
		{100, 2, 190},
		{0, 0, 50},
		{1, 0, 51},
		{0, 1, 70},
		{1, 1, 71},
		{4096, 16, 4466},
		{250, 3, 360},
		// Negative arguments count as 0, each for itself.
		{-1, 0, 50},
		{0, -1, 50},
		{-1, -1, 50},
		{-1, 5, 150},
		{5, -1, 55},
		{math.MinInt, 0, 50},
		{0, math.MinInt, 50},
		{math.MinInt, math.MinInt, 50},
		{math.MinInt, 2, 90},
		{100, math.MinInt, 150},
		{math.MinInt + 1, math.MinInt + 1, 50},
		{-1 << 30, -1 << 31, 50},
		// The size at its limit.
		{1<<30 - 1, 0, 1073741873},
		{1 << 30, 0, 1073741874},
		{1<<30 + 1, 0, 1073741874},
		{math.MaxInt, 0, 1073741874},
		{math.MaxInt, 1, 1073741894},
		// The number of transfers at its limit.
		{0, 1<<30 - 1, 21474836510},
		{0, 1 << 30, 21474836530},
		{0, 1<<30 + 1, 21474836530},
		{0, math.MaxInt, 21474836530},
		{1, math.MaxInt, 21474836531},
		// Both.
		{1<<30 - 1, 1<<30 - 1, 22548578333},
		{1 << 30, 1 << 30, 22548578354},
		{1<<30 + 1, 1<<30 + 1, 22548578354},
		{math.MaxInt, math.MaxInt, 22548578354},
		{math.MaxInt, math.MinInt, 1073741874},
		{math.MinInt, math.MaxInt, 21474836530},
	} {
		if n := gas.Used(x.size, x.transfers); n != x.want {
			t.Errorf("Used(%d, %d) = %d; want %d", x.size, x.transfers, n, x.want)
		}
	}
}

// counted is the number that the document uses in place of n.
func counted(n int) uint64 {
	switch {
	case n < 0:
		return 0
	case n > least:
		return least
	}
	return uint64(n)
}

// P12.1
func TestUsedAtAllPairs(t *testing.T) {
	counts := []int{
		math.MinInt, math.MinInt + 1, -1 << 30, -2, -1, 0, 1, 2, 15, 16, 17, 4095, 4096, 4097, 1 << 29,
		least - 2, least - 1, least, least + 1, least + 2, math.MaxInt - 1, math.MaxInt,
		// The low 32 bits of these are other numbers.
		-1 << 32, -1<<32 + 5, math.MaxInt32, 1 << 31, 1<<32 - 1, 1 << 32, 1<<32 + 5, 1 << 62, math.MaxInt - 1<<32,
	}
	for _, size := range counts {
		for _, transfers := range counts {
			want := 50 + counted(size) + 20*counted(transfers)
			if n := gas.Used(size, transfers); n != want {
				t.Errorf("Used(%d, %d) = %d; want %d", size, transfers, n, want)
			}
		}
	}
}

// P12.2
func TestNeed(t *testing.T) {
	for _, x := range []struct {
		gas, price, n uint64
		ok            bool
	}{
		{200, 3, 600, true},
		{190, 1000, 190000, true},
		// 0 and 1 on either side.
		{0, 0, 0, true},
		{0, 1, 0, true},
		{1, 0, 0, true},
		{1, 1, 1, true},
		{0, top, 0, true},
		{top, 0, 0, true},
		{1, top, top, true},
		{top, 1, top, true},
		{1, 190, 190, true},
		{190, 1, 190, true},
		// Exactly 2^64 - 1.
		{3, 6148914691236517205, top, true},
		{6148914691236517205, 3, top, true},
		{1<<32 - 1, 1<<32 + 1, top, true},
		{1<<32 + 1, 1<<32 - 1, top, true},
		{641, 28778071877862015, top, true},
		// Just below.
		{2, 1<<63 - 1, top - 1, true},
		{1<<63 - 1, 2, top - 1, true},
		// Exactly 2^64.
		{1 << 32, 1 << 32, 0, false},
		{2, 1 << 63, 0, false},
		{1 << 63, 2, 0, false},
		{1 << 10, 1 << 54, 0, false},
		// Just above: 2^64 + 1, 2^64 + 2 and 2^64 + 8.
		{274177, 67280421310721, 0, false},
		{67280421310721, 274177, 0, false},
		{18, 1024819115206086201, 0, false},
		{3, 6148914691236517206, 0, false},
		{6148914691236517206, 3, 0, false},
		{24, 768614336404564651, 0, false},
		// Far above, with low halves that look like fees.
		{1<<32 + 1, 1<<32 + 1, 0, false},
		{top, 2, 0, false},
		{2, top, 0, false},
		{top, top, 0, false},
	} {
		if n, ok := gas.Need(x.gas, x.price); n != x.n || ok != x.ok {
			t.Errorf("Need(%d, %d) = %d, %v; want %d, %v", x.gas, x.price, n, ok, x.n, x.ok)
		}
	}
}

// P12.2
func TestNeedIsTheExactProduct(t *testing.T) {
	for _, units := range samples() {
		for _, price := range samples() {
			exact := new(big.Int).Mul(number(units), number(price))
			var want uint64
			if exact.IsUint64() {
				want = exact.Uint64()
			}
			if n, ok := gas.Need(units, price); n != want || ok != exact.IsUint64() {
				t.Errorf("Need(%d, %d) = %d, %v; want %d, %v", units, price, n, ok, want, exact.IsUint64())
			}
		}
	}
}

// P12.3
func TestPriority(t *testing.T) {
	for _, x := range []struct{ fee, gas, want uint64 }{
		// Examples 2 and 3 of the chapter.
		{1, 3, 333},
		{top, 1, top},
		// The fee 0.
		{0, 1, 0},
		{0, 7, 0},
		{0, top, 0},
		// The gas 0.
		{0, 0, 0},
		{1, 0, 0},
		{5, 0, 0},
		{top, 0, 0},
		// Exact quotients.
		{1, 1, 1000},
		{1, 1000, 1},
		{300, 200, 1500},
		{200, 200, 1000},
		{1, 8, 125},
		{7, 7000, 1},
		{top, top, 1000},
		{1 << 63, 1 << 63, 1000},
		// Rounded down, also just below the next integer.
		{2, 3, 666},
		{1, 7, 142},
		{1, 999, 1},
		{1, 1001, 0},
		{999, 999001, 0},
		{1, 501, 1},
		{1, 500, 2},
		{1999, 2000, 999},
		{2001, 2000, 1000},
		{1, top, 0},
		{top - 1, top, 999},
		{top, top - 1, 1000},
		// 1000 * fee does not fit into 64 bits, the quotient does.
		{top / 1000, 1, 18446744073709551000},
		{top/1000 + 1, 2, 9223372036854776000},
		{top/1000 + 1, 1000, 18446744073709552},
		{1 << 60, 1000, 1 << 60},
		{1 << 63, 2000, 1 << 62},
		{top, 1001, 18428315757951600014},
		{top, 2000, 1<<63 - 1},
		{top, 1 << 63, 1999},
		{1 << 63, top, 500},
		// One less than 2^64 - 1, without and with a remainder.
		{top - 1, 1000, top - 1},
		{1051464412201444442, 57, top - 1},
		// Exactly 2^64 - 1, without and with a remainder.
		{top, 1000, top},
		{3689348814741910323, 200, top},
		{239807672958224171, 13, top},
		{18428297329635842064, 999, top},
		// Exactly 2^64, without and with a remainder.
		{1 << 63, 500, top},
		{2305843009213693952, 125, top},
		{1106804644422573097, 60, top},
		// Greater.
		{top/1000 + 1, 1, top},
		{1 << 63, 499, top},
		{1 << 63, 1, top},
		{top, 999, top},
		{top, 2, top},
		{1 << 63, 501, 18409924225259033548},
	} {
		if n := gas.Priority(x.fee, x.gas); n != x.want {
			t.Errorf("Priority(%d, %d) = %d; want %d", x.fee, x.gas, n, x.want)
		}
	}
}

// wantPriority is the definition of the document.
func wantPriority(fee, units uint64) uint64 {
	if units == 0 {
		return 0
	}
	exact := new(big.Int).Mul(big.NewInt(1000), number(fee))
	exact.Div(exact, number(units))
	if !exact.IsUint64() {
		return top
	}
	return exact.Uint64()
}

// P12.3
func TestPriorityIsTheExactQuotient(t *testing.T) {
	for _, fee := range samples() {
		for _, units := range samples() {
			want := wantPriority(fee, units)
			if n := gas.Priority(fee, units); n != want {
				t.Errorf("Priority(%d, %d) = %d; want %d", fee, units, n, want)
			}
		}
	}
	for fee := range uint64(120) {
		for units := range uint64(1200) {
			want := uint64(0)
			if units != 0 {
				want = 1000 * fee / units
			}
			if n := gas.Priority(fee, units); n != want {
				t.Errorf("Priority(%d, %d) = %d; want %d", fee, units, n, want)
			}
		}
	}
}

// ascending returns numbers in ascending order: all small ones, the samples with their neighbours, and numbers between them.
func ascending() []uint64 {
	var l []uint64
	for n := range uint64(60) {
		l = append(l, n, top-n, 1000+n, top/1000-30+n)
	}
	for _, n := range samples() {
		// Beside 0 and the greatest number lies the other one of them.
		l = append(l, n-1, n, n+1)
	}
	mixed := uint64(1)
	for n := range 200 {
		mixed = mixed*6364136223846793005 + 1442695040888963407
		l = append(l, mixed>>(n%64))
	}
	slices.Sort(l)
	return slices.Compact(l)
}

// P12.4
func TestOrderOfPriorities(t *testing.T) {
	l := ascending()
	for _, fixed := range l {
		for i := 1; i < len(l); i++ {
			less, more := l[i-1], l[i]
			if fixed != 0 {
				a, b := gas.Priority(less, fixed), gas.Priority(more, fixed)
				if a > b {
					t.Fatalf("for the gas %d, the fee %d has the priority %d and the fee %d has %d", fixed, less, a, more, b)
				}
			}
			if less != 0 {
				a, b := gas.Priority(fixed, less), gas.Priority(fixed, more)
				if a < b {
					t.Fatalf("for the fee %d, the gas %d has the priority %d and the gas %d has %d", fixed, less, a, more, b)
				}
			}
		}
	}
}

// R3
func TestAgain(t *testing.T) {
	for range 2 {
		n, ok := gas.Need(1<<32, 1<<32)
		if gas.Used(100, 2) != 190 || n != 0 || ok || gas.Priority(1, 3) != 333 {
			t.Error("a call has another result than the first one")
		}
	}
}
