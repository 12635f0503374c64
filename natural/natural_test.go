package natural_test

import (
	"math"
	"math/big"
	"slices"
	"testing"

	"routescope/api"
	"routescope/natural"
)

const top = 1<<30 - 1 // the greatest limb

// great returns a number whose limbs are all the greatest.
func great(limbs int) api.Natural { return slices.Repeat(api.Natural{top}, limbs) }

// one returns the power of the base with so many limbs.
func one(limbs int) api.Natural {
	n := make(api.Natural, limbs)
	n[limbs-1] = 1
	return n
}

// toBig is the value of a number by its definition.
func toBig(n api.Natural) *big.Int {
	sum := new(big.Int)
	for i, limb := range n {
		sum.Add(sum, new(big.Int).Lsh(big.NewInt(int64(limb)), uint(30*i)))
	}
	return sum
}

// fromBig returns the limbs of a number that may be too great to be valid.
func fromBig(b *big.Int) api.Natural {
	var n api.Natural
	for rest := new(big.Int).Set(b); rest.Sign() > 0; rest.Rsh(rest, 30) {
		n = append(n, int(new(big.Int).And(rest, big.NewInt(top)).Int64()))
	}
	return n
}

// mixed returns a number whose limbs follow from a seed; many of them are the least or the greatest ones, at which carries run on.
func mixed(limbs int, seed uint64) api.Natural {
	n := make(api.Natural, limbs)
	for i := range n {
		seed = seed*6364136223846793005 + 1442695040888963407
		switch seed >> 60 {
		case 0, 1, 2:
			n[i] = 0
		case 3, 4, 5:
			n[i] = top
		case 6:
			n[i] = 1
		case 7:
			n[i] = 1 << 29
		default:
			n[i] = int(seed >> 30 & top)
		}
	}
	if limbs > 0 && n[limbs-1] == 0 {
		n[limbs-1] = 1 + int(seed>>40&0xFFFF)
	}
	return n
}

// numbers returns valid numbers: edges, and numbers of many lengths.
func numbers() []api.Natural {
	list := []api.Natural{
		nil, {1}, {2}, {3}, {10}, {1 << 15}, {1 << 29}, {1<<29 - 1}, {top - 1}, {top},
		{0, 1}, {1, 1}, {top, 1}, {0, top}, {top, top}, {0, 1 << 29}, {top, 1<<29 - 1},
		{0, 0, 4}, {1, 0, 4}, {top, top, 3}, {top, 0, top}, {0, 0, 0, 1}, {0, top, 0, 1}, {5, 0, 1 << 29, 1 << 29},
		great(5), one(17), great(64), great(128), great(255), great(256), one(255), one(256),
	}
	for i, limbs := range []int{1, 1, 2, 2, 3, 3, 4, 5, 6, 7, 9, 12, 31, 64, 127, 129, 256} {
		list = append(list, mixed(limbs, uint64(i)*977+5))
	}
	return list
}

// invalid holds what is not a valid number.
func invalid() []api.Natural {
	return []api.Natural{
		{0}, {1, 0}, {0, 0}, {-1}, {-1, 1}, {1, -1}, {1 << 30}, {1 << 30, 1}, {1, 1 << 30}, {math.MaxInt}, {math.MinInt}, {math.MinInt, math.MaxInt, 0},
		great(257), one(257), one(5000), append(great(255), 0), append(great(256), 0), slices.Repeat(api.Natural{math.MinInt}, 300),
	}
}

// same reports whether a result is the number b, or, if b has too many limbs, api.ErrLimit with nothing.
func same(got api.Natural, e api.Errno, b *big.Int) bool {
	want := fromBig(b)
	if len(want) > 256 {
		return e == api.ErrLimit && len(got) == 0
	}
	return e == api.OK && slices.Equal(got, want)
}

// P2.1

func TestValid(t *testing.T) {
	for _, n := range numbers() {
		if !natural.Valid(n) {
			t.Errorf("%v is refused", n)
		}
	}
	for _, n := range invalid() {
		if natural.Valid(n) {
			t.Errorf("%v is taken", n)
		}
	}
}

// Each limb counts: one bad limb at any place makes a number invalid.
func TestValidLimbs(t *testing.T) {
	for i := range 256 {
		for _, limb := range []int{-1, math.MinInt, 1 << 30, math.MaxInt} {
			n := great(256)
			n[i] = limb
			if natural.Valid(n) {
				t.Errorf("limb %d may be %d", i, limb)
			}
		}
		n := great(256)
		n[i] = 0
		if natural.Valid(n) != (i < 255) {
			t.Errorf("limb %d is 0: %t", i, natural.Valid(n))
		}
	}
}

func TestFrom(t *testing.T) {
	for _, n := range []int{0, 1, 2, top - 1, top, 1 << 30, 1<<30 + 1, 1<<60 - 1, 1 << 60, 1<<60 + 1, 1<<62 - 1, 1 << 62, 1<<62 + 1, math.MaxInt - 1, math.MaxInt} {
		got, e := natural.From(n)
		if !same(got, e, big.NewInt(int64(n))) {
			t.Errorf("From(%d) is %v, %d", n, got, e)
		}
	}
	for _, n := range []int{-1, -2, -1 << 30, -1 << 62, math.MinInt} {
		if got, e := natural.From(n); e != api.ErrNegative || len(got) != 0 {
			t.Errorf("From(%d) is %v, %d", n, got, e)
		}
	}
	if got, _ := natural.From(1 << 30); !slices.Equal(got, api.Natural{0, 1}) {
		t.Errorf("From(2^30) is %v", got)
	}
}

func TestInt(t *testing.T) {
	bound := big.NewInt(1 << 62)
	for _, n := range append(numbers(), api.Natural{1, 0, 3}, api.Natural{0, 1, 4}, api.Natural{top, top, 4}, api.Natural{0, 0, 5}, api.Natural{0, 0, 8}, api.Natural{0, 0, 16}) {
		got, e := natural.Int(n)
		if value := toBig(n); value.Cmp(bound) > 0 {
			if got != 0 || e != api.ErrRange {
				t.Errorf("Int(%v) is %d, %d", n, got, e)
			}
		} else if e != api.OK || int64(got) != value.Int64() {
			t.Errorf("Int(%v) is %d, %d", n, got, e)
		}
	}
	for _, n := range []int{0, 1, top, 1 << 30, 1 << 45, 1 << 60, 1<<62 - 1, 1 << 62} {
		limbs, _ := natural.From(n)
		if got, e := natural.Int(limbs); got != n || e != api.OK {
			t.Errorf("%d comes back as %d, %d", n, got, e)
		}
	}
	for _, n := range []int{1<<62 + 1, math.MaxInt} {
		limbs, _ := natural.From(n)
		if got, e := natural.Int(limbs); got != 0 || e != api.ErrRange {
			t.Errorf("%d comes back as %d, %d", n, got, e)
		}
	}
}

// R1, R4: also what is not a number ends every function without a panic, and an error comes with nothing else.
func TestInvalidNumbers(t *testing.T) {
	bad := invalid()
	check := func(name string, e api.Errno, results ...api.Natural) {
		for _, r := range results {
			if e != api.OK && len(r) > 0 {
				t.Errorf("%s returns %v with the error %d", name, r, e)
			}
		}
	}
	for i, n := range bad {
		if got, e := natural.Int(n); e != api.OK && got != 0 {
			t.Errorf("Int(%v) is %d with the error %d", n, got, e)
		}
		natural.Text(n)
		for _, k := range []int{math.MinInt, 0, 1, 2, 3, 1 << 16, math.MaxInt} {
			power, e := natural.Pow(n, k)
			check("Pow", e, power)
		}
		for _, m := range append(numbers(), bad[(i+1)%len(bad)], n) {
			for _, pair := range [][2]api.Natural{{n, m}, {m, n}} {
				a, b := pair[0], pair[1]
				natural.Compare(a, b)
				natural.Gcd(a, b)
				sum, e := natural.Add(a, b)
				check("Add", e, sum)
				difference, e := natural.Sub(a, b)
				check("Sub", e, difference)
				product, e := natural.Mul(a, b)
				check("Mul", e, product)
				quotient, remainder, e := natural.DivMod(a, b)
				check("DivMod", e, quotient, remainder)
			}
		}
	}
}

// guarded returns a copy of n that is followed by limbs in its spare capacity, and a function that reports whether n and these limbs are still there.
func guarded(n api.Natural) (api.Natural, func() bool) {
	memory := append(slices.Clone(n), 71, 72, 73)
	before := slices.Clone(memory)
	return memory[:len(n)], func() bool { return slices.Equal(memory, before) }
}

// operations are all functions whose results are numbers.
func operations() map[string]func(a, b api.Natural) []api.Natural {
	single := func(f func(a, b api.Natural) (api.Natural, api.Errno)) func(a, b api.Natural) []api.Natural {
		return func(a, b api.Natural) []api.Natural {
			n, _ := f(a, b)
			return []api.Natural{n}
		}
	}
	return map[string]func(a, b api.Natural) []api.Natural{
		"Add": single(natural.Add),
		"Sub": single(natural.Sub),
		"Mul": single(natural.Mul),
		"DivMod": func(a, b api.Natural) []api.Natural {
			q, r, _ := natural.DivMod(a, b)
			return []api.Natural{q, r}
		},
		"Gcd": func(a, b api.Natural) []api.Natural { return []api.Natural{natural.Gcd(a, b)} },
		"Pow": func(a, b api.Natural) []api.Natural {
			n, _ := natural.Pow(a, len(b))
			return []api.Natural{n}
		},
	}
}

// R2: arguments stay as they are, with their spare capacity, also when all that the results hold and could hold is overwritten.
func TestMemory(t *testing.T) {
	for name, f := range operations() {
		for _, n := range numbers() {
			for _, m := range numbers() {
				a, sameA := guarded(n)
				b, sameB := guarded(m)
				results := f(a, b)
				copies := make([]api.Natural, len(results))
				for i, r := range results {
					copies[i] = slices.Clone(r)
				}
				for i, r := range results {
					if !slices.Equal(r, copies[i]) {
						t.Fatalf("%s(%v, %v): two results share memory", name, n, m)
					}
					for j := range r[:cap(r)] {
						r[:cap(r)][j] = -5
					}
				}
				if !sameA() || !sameB() {
					t.Fatalf("%s(%v, %v) touches its arguments", name, n, m)
				}
				if again := f(a, b); !slices.EqualFunc(again, copies, func(x, y api.Natural) bool { return slices.Equal(x, y) }) {
					t.Fatalf("%s(%v, %v) is another number the second time", name, n, m)
				}
			}
		}
	}
}
