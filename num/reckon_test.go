package num_test

import (
	"math"
	"math/big"
	"testing"

	"carpetbag/api"
	"carpetbag/num"
)

// kinds are the sums' kinds.
func kinds() []int {
	return []int{api.Add, api.Sub, api.Mul, api.Div, api.Rem, api.And, api.Or, api.Xor, api.Shl, api.Shr, api.Ushr}
}

// noKinds are numbers that no sum has.
func noKinds() []int {
	return []int{0, -1, 12, 13, -11, 255, 256, 257, 260, 1<<32 + 1, 1<<32 + 4, math.MinInt, math.MinInt + 4, math.MaxInt}
}

// wrap is v modulo 2^size, from -2^(size-1) on.
func wrap(v *big.Int, size uint) int64 {
	half := new(big.Int).Lsh(big.NewInt(1), size-1)
	all := new(big.Int).Lsh(big.NewInt(1), size)
	v = new(big.Int).Mod(v, all)
	if v.Cmp(half) >= 0 {
		v.Sub(v, all)
	}
	return v.Int64()
}

// model reckons with numbers of any size, as the chapter's words go.
func model(op int, a, b int64, size uint) (int64, api.Errno) {
	x, y, v := big.NewInt(a), big.NewInt(b), new(big.Int)
	by := uint(new(big.Int).Mod(y, big.NewInt(int64(size))).Uint64())
	above := new(big.Int).Mod(x, new(big.Int).Lsh(big.NewInt(1), size)) // x without its sign
	if b == 0 && (op == api.Div || op == api.Rem) {
		return 0, api.ErrRange
	}
	switch op {
	case api.Add:
		v.Add(x, y)
	case api.Sub:
		v.Sub(x, y)
	case api.Mul:
		v.Mul(x, y)
	case api.Div:
		v.Quo(x, y)
	case api.Rem:
		v.Rem(x, y)
	case api.And:
		v.And(x, y)
	case api.Or:
		v.Or(x, y)
	case api.Xor:
		v.Xor(x, y)
	case api.Shl:
		v.Lsh(x, by)
	case api.Shr:
		v.Rsh(x, by)
	case api.Ushr:
		v.Rsh(above, by)
	}
	return wrap(v, size), api.OK
}

// operands are numbers of a size: edges, all that shifts may go by and numbers beyond, each bit, and some that look as if thrown.
func operands(size uint) []int64 {
	least := int64(-1) << (size - 1)
	row := []int64{least, least + 1, least + 2, least / 2, least/2 - 1, least / 3, ^least, ^least - 1, ^least / 2, ^least / 3, 46340, 46341, 3037000499, 3037000500}
	for n := int64(-70); n <= 70; n++ {
		row = append(row, n)
	}
	dice := uint64(88172645463325252)
	for bit := range size {
		dice = dice*6364136223846793005 + 1442695040888963407
		row = append(row, 1<<bit, -1<<bit, 1<<bit-1, int64(dice), int64(dice>>(bit/2)), int64(dice>>bit))
	}
	for i, n := range row {
		row[i] = wrap(big.NewInt(n), size)
	}
	return row
}

// P2.1: each outcome of two ints, and of two longs.

func TestIntAgainstModel(t *testing.T) {
	for _, a := range operands(32) {
		for _, b := range operands(32) {
			for _, op := range kinds() {
				wanted, e := model(op, a, b, 32)
				if got, err := num.Int(op, int32(a), int32(b)); int64(got) != wanted || err != e {
					t.Fatalf("Int(%d, %d, %d): %d, %d, not %d, %d", op, a, b, got, err, wanted, e)
				}
			}
		}
	}
}

func TestLongAgainstModel(t *testing.T) {
	for _, a := range operands(64) {
		for _, b := range operands(64) {
			for _, op := range kinds() {
				wanted, e := model(op, a, b, 64)
				if got, err := num.Long(op, a, b); got != wanted || err != e {
					t.Fatalf("Long(%d, %d, %d): %d, %d, not %d, %d", op, a, b, got, err, wanted, e)
				}
			}
		}
	}
}

func TestInt(t *testing.T) {
	const least, most = math.MinInt32, math.MaxInt32
	for _, x := range []struct {
		op         int
		a, b, want int32
	}{
		{api.Div, -7, 2, -3}, // the chapter's example
		{api.Div, 7, -2, -3}, {api.Div, -7, -2, 3}, {api.Div, 7, 2, 3}, {api.Div, 1, 2, 0}, {api.Div, -1, 2, 0}, {api.Div, 0, -5, 0},
		{api.Rem, -7, 2, -1}, {api.Rem, 7, -2, 1}, {api.Rem, -7, -2, -1}, {api.Rem, 7, 2, 1}, {api.Rem, -6, 3, 0},
		{api.Div, least, -1, least}, {api.Rem, least, -1, 0}, {api.Div, least, 1, least}, {api.Div, most, -1, -most}, {api.Rem, least, most, -1},
		{api.Add, most, 1, least}, {api.Add, least, -1, most}, {api.Add, least, least, 0},
		{api.Sub, least, 1, most}, {api.Sub, most, -1, least}, {api.Sub, 0, least, least},
		{api.Mul, 65536, 65536, 0}, {api.Mul, least, -1, least}, {api.Mul, 46341, 46341, -2147479015}, {api.Mul, most, most, 1},
		{api.And, -1, 0x0f0f, 0x0f0f}, {api.Or, least, 1, least + 1}, {api.Xor, -1, most, least},
		{api.Shl, 1, 31, least}, {api.Shl, 1, 32, 1}, {api.Shl, 1, 33, 2}, {api.Shl, 1, -1, least}, {api.Shl, 3, 31, least}, {api.Shl, -1, 4, -16}, {api.Shl, 1, least, 1},
		{api.Shr, -8, 1, -4}, {api.Shr, -1, 31, -1}, {api.Shr, least, 31, -1}, {api.Shr, most, 30, 1}, {api.Shr, -8, 32, -8}, {api.Shr, -8, 33, -4}, {api.Shr, least, -1, -1},
		{api.Ushr, -1, 28, 15}, {api.Ushr, -1, 31, 1}, {api.Ushr, -1, 32, -1}, {api.Ushr, -1, -1, 1}, {api.Ushr, least, 1, 1 << 30}, {api.Ushr, -1, 0, -1}, {api.Ushr, -1, 64, -1},
	} {
		if got, e := num.Int(x.op, x.a, x.b); got != x.want || e != api.OK {
			t.Errorf("Int(%d, %d, %d): %d, %d, not %d", x.op, x.a, x.b, got, e, x.want)
		}
	}
}

func TestLong(t *testing.T) {
	const least, most = math.MinInt64, math.MaxInt64
	for _, x := range []struct {
		op         int
		a, b, want int64
	}{
		{api.Div, -7, 2, -3}, {api.Rem, -7, 2, -1}, {api.Rem, 7, -2, 1},
		{api.Div, least, -1, least}, {api.Rem, least, -1, 0}, {api.Div, math.MinInt32, -1, 1 << 31},
		{api.Add, most, 1, least}, {api.Add, math.MaxInt32, 1, 1 << 31}, {api.Sub, least, 1, most},
		{api.Mul, 1 << 32, 1 << 32, 0}, {api.Mul, 65536, 65536, 1 << 32}, {api.Mul, least, -1, least}, {api.Mul, most, most, 1},
		{api.And, -1, 1 << 40, 1 << 40}, {api.Or, 1 << 40, 1, 1<<40 + 1}, {api.Xor, -1, most, least},
		{api.Shl, 1, 32, 1 << 32}, {api.Shl, 1, 63, least}, {api.Shl, 1, 64, 1}, {api.Shl, 1, 65, 2}, {api.Shl, 1, -1, least}, {api.Shl, 1, 1 << 40, 1}, {api.Shl, 1, least, 1},
		{api.Shr, least, 63, -1}, {api.Shr, -8, 64, -8}, {api.Shr, -8, 65, -4}, {api.Shr, most, 62, 1}, {api.Shr, least, -1, -1},
		{api.Ushr, -1, 32, 1<<32 - 1}, {api.Ushr, -1, 63, 1}, {api.Ushr, -1, 64, -1}, {api.Ushr, -1, -1, 1}, {api.Ushr, least, 1, 1 << 62}, {api.Ushr, -1, 0, -1},
	} {
		if got, e := num.Long(x.op, x.a, x.b); got != x.want || e != api.OK {
			t.Errorf("Long(%d, %d, %d): %d, %d, not %d", x.op, x.a, x.b, got, e, x.want)
		}
	}
}

func TestDivisionByZero(t *testing.T) {
	for _, op := range []int{api.Div, api.Rem} {
		for _, a := range operands(64) {
			if got, e := num.Int(op, int32(a), 0); got != 0 || e != api.ErrRange {
				t.Errorf("Int(%d, %d, 0): %d, %d", op, int32(a), got, e)
			}
			if got, e := num.Long(op, a, 0); got != 0 || e != api.ErrRange {
				t.Errorf("Long(%d, %d, 0): %d, %d", op, a, got, e)
			}
		}
	}
}

func TestNoKind(t *testing.T) {
	edges := []int64{0, 1, -1, 2, 31, math.MinInt32, math.MaxInt32, math.MinInt64, math.MaxInt64}
	for _, op := range noKinds() {
		for _, a := range edges {
			for _, b := range edges {
				if got, e := num.Int(op, int32(a), int32(b)); got != 0 || e != api.ErrArg {
					t.Errorf("Int(%d, %d, %d): %d, %d, not ErrArg", op, int32(a), int32(b), got, e)
				}
				if got, e := num.Long(op, a, b); got != 0 || e != api.ErrArg {
					t.Errorf("Long(%d, %d, %d): %d, %d, not ErrArg", op, a, b, got, e)
				}
			}
		}
	}
}

func TestTheSumsNumbers(t *testing.T) {
	wanted := []int32{0, 19, 11, 60, 3, 3, 4, 15, 11, 240, 0, 0} // of 15 and 4, by the numbers 1 to 11
	for op := 1; op <= 11; op++ {
		if got, e := num.Int(op, 15, 4); got != wanted[op] || e != api.OK {
			t.Errorf("Int(%d, 15, 4): %d, %d, not %d", op, got, e, wanted[op])
		}
		if got, e := num.Long(op, 15, 4); got != int64(wanted[op]) || e != api.OK {
			t.Errorf("Long(%d, 15, 4): %d, %d, not %d", op, got, e, wanted[op])
		}
	}
}
