package scalar

import (
	"math"
	"math/big"
	"testing"

	"warpwright/api"
)

const (
	least = math.MinInt32
	most  = math.MaxInt32
	one   = 65536 // 1.0
)

// samples has the numbers at which results wrap around or change their sign, and others.
func samples() []int32 {
	list := []int32{0, 3, 5, 6, 7, 10, 12, 30, 33, 63, 100, 32767, 65535, 65537, 98304, 131071, 8388607, 46341, 123456789, most, most - 1, least + 2}
	for i := range 32 {
		list = append(list, 1<<i)
	}
	next := uint32(12345)
	for range 30 {
		next = next*1664525 + 1013904223
		list = append(list, int32(next), int32(next)>>16)
	}
	for _, v := range list {
		list = append(list, -v)
	}
	return list
}

// wrap takes n modulo 2^32.
func wrap(n *big.Int) int32 {
	return int32(uint32(new(big.Int).And(n, big.NewInt(math.MaxUint32)).Uint64()))
}

func number(v int32) *big.Int {
	return big.NewInt(int64(v))
}

// floor is n / d, rounded down.
func floor(n, d *big.Int) *big.Int {
	if d.Sign() < 0 {
		n, d = new(big.Int).Neg(n), new(big.Int).Neg(d)
	}
	return new(big.Int).Div(n, d) // Euclidean, which rounds down for d > 0
}

func un(t *testing.T, op int, a int32) int32 {
	t.Helper()
	v, e := Un(op, a)
	if e != api.OK {
		t.Fatalf("Un(%d, %d): error %d", op, a, e)
	}
	return v
}

func bin(t *testing.T, op int, a, b int32) int32 {
	t.Helper()
	v, e := Bin(op, a, b)
	if e != api.OK {
		t.Fatalf("Bin(%d, %d, %d): error %d", op, a, b, e)
	}
	return v
}

func wantUn(op int, a int32) int32 {
	n := number(a)
	switch op {
	case api.UNeg:
		return wrap(n.Neg(n))
	case api.UNot:
		return wrap(n.Not(n))
	case api.UAbs:
		return wrap(n.Abs(n))
	case api.UFix:
		return wrap(n.Mul(n, big.NewInt(one)))
	}
	return wrap(floor(n, big.NewInt(one)))
}

func wantBin(op int, a, b int32) int32 {
	x, y, z := number(a), number(b), new(big.Int)
	shift := uint(floorMod(b, 32))
	switch op {
	case api.BAdd:
		return wrap(z.Add(x, y))
	case api.BSub:
		return wrap(z.Sub(x, y))
	case api.BMul:
		return wrap(z.Mul(x, y))
	case api.BDiv:
		if b == 0 {
			return 0
		}
		return wrap(z.Quo(x, y))
	case api.BRem:
		if b == 0 {
			return a
		}
		return wrap(z.Rem(x, y))
	case api.BMulF:
		return wrap(floor(z.Mul(x, y), big.NewInt(one)))
	case api.BDivF:
		if b == 0 {
			return 0
		}
		return wrap(floor(z.Mul(x, big.NewInt(one)), y))
	case api.BAnd:
		return wrap(z.And(x, y))
	case api.BOr:
		return wrap(z.Or(x, y))
	case api.BXor:
		return wrap(z.Xor(x, y))
	case api.BShl:
		return wrap(z.Lsh(x, shift))
	case api.BShr:
		return wrap(floor(x, z.Lsh(big.NewInt(1), shift)))
	case api.BMin:
		if x.Cmp(y) > 0 {
			return b
		}
		return a
	case api.BMax:
		if x.Cmp(y) < 0 {
			return b
		}
		return a
	}
	holds := map[int]bool{api.BEq: x.Cmp(y) == 0, api.BNe: x.Cmp(y) != 0, api.BLt: x.Cmp(y) < 0, api.BLe: x.Cmp(y) <= 0, api.BGt: x.Cmp(y) > 0, api.BGe: x.Cmp(y) >= 0}
	if holds[op] {
		return 1
	}
	return 0
}

func floorMod(a, b int32) int32 {
	return int32(new(big.Int).Mod(number(a), number(b)).Int64())
}

// P1.1, for A1.
func TestUnIsAsSpecified(t *testing.T) {
	for op := api.UNeg; op <= api.UInt; op++ {
		for _, a := range samples() {
			if v := un(t, op, a); v != wantUn(op, a) {
				t.Errorf("Un(%d, %d) = %d, not %d", op, a, v, wantUn(op, a))
			}
		}
	}
}

// P1.1, for A2.
func TestBinIsAsSpecified(t *testing.T) {
	for op := api.BAdd; op <= api.BGe; op++ {
		for _, a := range samples() {
			for _, b := range samples() {
				if v := bin(t, op, a, b); v != wantBin(op, a, b) {
					t.Errorf("Bin(%d, %d, %d) = %d, not %d", op, a, b, v, wantBin(op, a, b))
				}
			}
		}
	}
}

// P1.1, for A1 and A2.
func TestExamplesOfOperators(t *testing.T) {
	for _, c := range []struct {
		op         int
		a, b, want int32
	}{
		{api.BDiv, -7, 2, -3}, {api.BDiv, 7, -2, -3}, {api.BDiv, 7, 0, 0}, {api.BDiv, least, -1, least}, {api.BDiv, least, 0, 0},
		{api.BRem, -7, 2, -1}, {api.BRem, 7, -2, 1}, {api.BRem, -7, 0, -7}, {api.BRem, least, -1, 0}, {api.BRem, least, 0, least},
		{api.BMulF, -1, 1, -1}, {api.BMulF, 1, 1, 0}, {api.BMulF, -1, -1, 0}, {api.BMulF, least, least, 0}, {api.BMulF, most, most, -65536}, {api.BMulF, least, most, 32768},
		{api.BDivF, 65536, 131072, 32768}, {api.BDivF, -1, 131072, -1}, {api.BDivF, 1, -131072, -1}, {api.BDivF, -1, -131072, 0}, {api.BDivF, -131072, 131072, -65536}, {api.BDivF, -5, 0, 0}, {api.BDivF, most, 1, -65536}, {api.BDivF, least, -1, 0},
		{api.BShl, 1, 33, 2}, {api.BShl, 1, 32, 1}, {api.BShl, 1, -1, least}, {api.BShl, 5, least, 5}, {api.BShr, -5, 1, -3}, {api.BShr, -1, 31, -1}, {api.BShr, 4, 33, 2}, {api.BShr, least, -1, -1},
		{api.BAdd, most, 1, least}, {api.BSub, least, 1, most}, {api.BSub, 0, least, least}, {api.BMul, 65536, 65536, 0}, {api.BMul, least, -1, least},
		{api.BMin, least, most, least}, {api.BMax, least, most, most}, {api.BLt, least, most, 1}, {api.BGt, least, most, 0},
	} {
		if v := bin(t, c.op, c.a, c.b); v != c.want {
			t.Errorf("Bin(%d, %d, %d) = %d, not %d", c.op, c.a, c.b, v, c.want)
		}
	}
	for _, c := range []struct {
		op      int
		a, want int32
	}{
		{api.UNeg, 5, -5}, {api.UNeg, least, least}, {api.UNot, 0, -1}, {api.UNot, 1, -2}, {api.UAbs, -5, 5}, {api.UAbs, 5, 5}, {api.UAbs, least, least},
		{api.UFix, -3, -196608}, {api.UFix, 32768, least}, {api.UFix, 65537, 65536}, {api.UInt, 98304, 1}, {api.UInt, -1, -1}, {api.UInt, -98304, -2}, {api.UInt, least, -32768},
	} {
		if v := un(t, c.op, c.a); v != c.want {
			t.Errorf("Un(%d, %d) = %d, not %d", c.op, c.a, v, c.want)
		}
	}
}

// strangers has numbers that are not from low to high, also such that are as soon as they lose bits.
func strangers(low, high int) []int {
	list := []int{math.MinInt, math.MinInt32, -1, 0, math.MaxInt32, math.MaxInt}
	for n := range 64 {
		if n < low || n > high {
			list = append(list, n)
		} else {
			list = append(list, -n, n+1<<8, n+1<<16, n+1<<32, n-1<<32, n+math.MinInt)
		}
	}
	return list
}

// P1.1, for A1 and A2.
func TestOtherOperatorsAreRefused(t *testing.T) {
	for _, a := range []int32{least, -1, 0, 1, 65536, most} {
		for _, op := range strangers(api.UNeg, api.UInt) {
			if v, e := Un(op, a); v != 0 || e != api.ErrArg {
				t.Errorf("Un(%d, %d) = %d, %d", op, a, v, e)
			}
		}
		for _, op := range strangers(api.BAdd, api.BGe) {
			if v, e := Bin(op, a, 3); v != 0 || e != api.ErrArg {
				t.Errorf("Bin(%d, %d, 3) = %d, %d", op, a, v, e)
			}
		}
	}
}

// P1.2.
func TestIntegersAreARing(t *testing.T) {
	add := func(a, b int32) int32 { return bin(t, api.BAdd, a, b) }
	mul := func(a, b int32) int32 { return bin(t, api.BMul, a, b) }
	for i, a := range samples() {
		if add(a, 0) != a || mul(a, 1) != a || add(a, un(t, api.UNeg, a)) != 0 {
			t.Errorf("0, 1 or the negative of %d", a)
		}
		for j, b := range samples() {
			if add(a, b) != add(b, a) || mul(a, b) != mul(b, a) {
				t.Errorf("%d and %d do not commute", a, b)
			}
			if d := bin(t, api.BSub, a, b); d != add(a, un(t, api.UNeg, b)) || add(d, b) != a {
				t.Errorf("%d less %d is %d", a, b, d)
			}
			c := samples()[(7*i+11*j)%len(samples())]
			if add(add(a, b), c) != add(a, add(b, c)) || mul(mul(a, b), c) != mul(a, mul(b, c)) {
				t.Errorf("%d, %d and %d are not associative", a, b, c)
			}
			if mul(a, add(b, c)) != add(mul(a, b), mul(a, c)) {
				t.Errorf("%d does not distribute over %d and %d", a, b, c)
			}
		}
	}
}

// P1.3.
func TestDivisionWithRemainder(t *testing.T) {
	for _, a := range samples() {
		for _, b := range samples() {
			q, r := bin(t, api.BDiv, a, b), bin(t, api.BRem, a, b)
			if bin(t, api.BAdd, bin(t, api.BMul, b, q), r) != a {
				t.Errorf("%d / %d = %d with the remainder %d", a, b, q, r)
			}
			if r != 0 && (r < 0) != (a < 0) {
				t.Errorf("the remainder %d of %d / %d has the wrong sign", r, a, b)
			}
			if b != 0 && number(r).CmpAbs(number(b)) >= 0 {
				t.Errorf("the remainder %d of %d / %d is too great", r, a, b)
			}
			if b == 0 && q != 0 {
				t.Errorf("%d / 0 = %d", a, q)
			}
		}
	}
}

// roundsDown says whether v is n / d, rounded down, modulo 2^32; n / d may have more than 32 bits.
func roundsDown(v int32, n, d *big.Int) bool {
	if d.Sign() < 0 {
		n, d = new(big.Int).Neg(n), new(big.Int).Neg(d)
	}
	low := floor(n, d)
	rest := new(big.Int).Sub(n, new(big.Int).Mul(low, d))
	return rest.Sign() >= 0 && rest.Cmp(d) < 0 && wrap(low) == v
}

// P1.4.
func TestFixedPointNumbers(t *testing.T) {
	for _, a := range samples() {
		if v, w := bin(t, api.BMulF, a, one), bin(t, api.BMulF, one, a); v != a || w != a {
			t.Errorf("products of %d and 1.0: %d, %d", a, v, w)
		}
		if v := bin(t, api.BDivF, a, one); v != a {
			t.Errorf("quotient of %d and 1.0: %d", a, v)
		}
		for _, b := range samples() {
			product := new(big.Int).Mul(number(a), number(b))
			if v := bin(t, api.BMulF, a, b); !roundsDown(v, product, big.NewInt(one)) {
				t.Errorf("product of %d and %d: %d", a, b, v)
			}
			scaled := new(big.Int).Mul(number(a), big.NewInt(one))
			if v := bin(t, api.BDivF, a, b); b == 0 && v != 0 || b != 0 && !roundsDown(v, scaled, number(b)) {
				t.Errorf("quotient of %d and %d: %d", a, b, v)
			}
		}
	}
	for n := int32(math.MinInt16); n <= math.MaxInt16; n++ {
		if v := un(t, api.UInt, un(t, api.UFix, n)); v != n {
			t.Errorf("UInt of UFix of %d: %d", n, v)
		}
	}
}

// P1.5.
func TestBits(t *testing.T) {
	not := func(a int32) int32 { return un(t, api.UNot, a) }
	for _, a := range samples() {
		for s := int32(-70); s <= 70; s++ {
			power := new(big.Int).Lsh(big.NewInt(1), uint(floorMod(s, 32)))
			if v := bin(t, api.BShl, a, s); v != bin(t, api.BMul, a, wrap(power)) {
				t.Errorf("%d shifted to the left by %d: %d", a, s, v)
			}
			if v := bin(t, api.BShr, a, s); !roundsDown(v, number(a), power) {
				t.Errorf("%d shifted to the right by %d: %d", a, s, v)
			}
		}
		if not(not(a)) != a || bin(t, api.BXor, a, -1) != not(a) {
			t.Errorf("the bits of %d inverted", a)
		}
		for _, b := range samples() {
			if not(bin(t, api.BAnd, a, b)) != bin(t, api.BOr, not(a), not(b)) || not(bin(t, api.BOr, a, b)) != bin(t, api.BAnd, not(a), not(b)) {
				t.Errorf("De Morgan for %d and %d", a, b)
			}
			either, both := bin(t, api.BOr, a, b), bin(t, api.BAnd, a, b)
			if bin(t, api.BXor, a, b) != bin(t, api.BSub, either, both) {
				t.Errorf("exclusive or of %d and %d", a, b)
			}
		}
	}
}

// P1.6.
func TestOrder(t *testing.T) {
	for _, a := range samples() {
		for _, b := range samples() {
			less, equal, greater := bin(t, api.BLt, a, b), bin(t, api.BEq, a, b), bin(t, api.BGt, a, b)
			if less+equal+greater != 1 || less*equal != 0 || less*greater != 0 || equal*greater != 0 {
				t.Errorf("%d and %d: less %d, equal %d, greater %d", a, b, less, equal, greater)
			}
			if (less == 1) != (a < b) || (equal == 1) != (a == b) {
				t.Errorf("%d and %d: less %d, equal %d", a, b, less, equal)
			}
			if bin(t, api.BLe, a, b) != 1-greater || bin(t, api.BGe, a, b) != 1-less || bin(t, api.BNe, a, b) != 1-equal {
				t.Errorf("%d and %d: at most, at least, not equal", a, b)
			}
			lower, upper := a, b
			if greater == 1 {
				lower, upper = b, a
			}
			if bin(t, api.BMin, a, b) != lower || bin(t, api.BMax, a, b) != upper {
				t.Errorf("minimum and maximum of %d and %d", a, b)
			}
		}
	}
}
