package natural_test

import (
	"math/big"
	"slices"
	"testing"

	"routescope/api"
	"routescope/natural"
)

// P2.2

func TestCompare(t *testing.T) {
	for _, a := range numbers() {
		for _, b := range numbers() {
			if got := natural.Compare(a, b); got != toBig(a).Cmp(toBig(b)) {
				t.Errorf("Compare(%v, %v) is %d", a, b, got)
			}
		}
	}
	for i := range 256 {
		less, more := great(256), great(256)
		less[i]--
		if i > 0 {
			more[i-1] = 0
		}
		if natural.Compare(less, more) != -1 || natural.Compare(more, less) != 1 || natural.Compare(less, less) != 0 {
			t.Errorf("limb %d is not compared before those below it", i)
		}
	}
}

func TestAdd(t *testing.T) {
	for _, a := range numbers() {
		for _, b := range numbers() {
			got, e := natural.Add(a, b)
			if !same(got, e, new(big.Int).Add(toBig(a), toBig(b))) {
				t.Errorf("Add(%v, %v) is %v, %d", a, b, got, e)
			}
		}
	}
}

// The carry of 1 runs through all limbs, and out of the last one that is permitted.
func TestAddCarry(t *testing.T) {
	for limbs := 1; limbs < 256; limbs++ {
		for _, pair := range [][2]api.Natural{{great(limbs), {1}}, {{1}, great(limbs)}} {
			if got, e := natural.Add(pair[0], pair[1]); e != api.OK || !slices.Equal(got, one(limbs+1)) {
				t.Errorf("%d limbs: %v, %d", limbs, got, e)
			}
		}
	}
	for _, pair := range [][2]api.Natural{{great(256), {1}}, {{1}, great(256)}, {great(256), great(256)}} {
		if got, e := natural.Add(pair[0], pair[1]); e != api.ErrLimit || len(got) != 0 {
			t.Errorf("257 limbs: %v, %d", got, e)
		}
	}
}

func TestSub(t *testing.T) {
	for _, a := range numbers() {
		for _, b := range numbers() {
			got, e := natural.Sub(a, b)
			difference := new(big.Int).Sub(toBig(a), toBig(b))
			if difference.Sign() < 0 {
				if e != api.ErrNegative || len(got) != 0 {
					t.Errorf("Sub(%v, %v) is %v, %d", a, b, got, e)
				}
			} else if !same(got, e, difference) {
				t.Errorf("Sub(%v, %v) is %v, %d", a, b, got, e)
			}
		}
	}
	for limbs := 1; limbs < 256; limbs++ {
		if got, e := natural.Sub(one(limbs+1), api.Natural{1}); e != api.OK || !slices.Equal(got, great(limbs)) {
			t.Errorf("the borrow does not run through %d limbs: %v, %d", limbs, got, e)
		}
		if got, e := natural.Sub(great(limbs), one(limbs+1)); e != api.ErrNegative || len(got) != 0 {
			t.Errorf("a difference below 0: %v, %d", got, e)
		}
	}
}

func TestMul(t *testing.T) {
	for _, a := range numbers() {
		for _, b := range numbers() {
			got, e := natural.Mul(a, b)
			if !same(got, e, new(big.Int).Mul(toBig(a), toBig(b))) {
				t.Errorf("Mul(%v, %v) is %v, %d", a, b, got, e)
			}
		}
	}
}

// Numbers of i and j limbs have a product of i + j limbs, or one less: at the limit it is the limbs of the product that decide.
func TestMulLimit(t *testing.T) {
	for i := 1; i <= 256; i++ {
		if got, e := natural.Mul(one(i), one(257-i)); e != api.OK || !slices.Equal(got, one(256)) {
			t.Errorf("%d limbs: %v, %d", i, got, e)
		}
		if got, e := natural.Mul(great(i), great(257-i)); e != api.ErrLimit || len(got) != 0 {
			t.Errorf("%d limbs: %v, %d", i, got, e)
		}
		if i == 256 {
			break
		}
		if got, e := natural.Mul(one(i+1), one(257-i)); e != api.ErrLimit || len(got) != 0 {
			t.Errorf("%d limbs: %v, %d", i, got, e)
		}
		if got, e := natural.Mul(great(i), great(256-i)); !same(got, e, new(big.Int).Mul(toBig(great(i)), toBig(great(256-i)))) {
			t.Errorf("%d limbs: %v, %d", i, got, e)
		}
	}
	for _, pair := range [][2]api.Natural{{great(256), nil}, {nil, great(256)}} {
		if got, e := natural.Mul(pair[0], pair[1]); e != api.OK || len(got) != 0 {
			t.Errorf("0 times a great number is %v, %d", got, e)
		}
	}
}

// checkDivision compares a division with that of math/big.
func checkDivision(t *testing.T, a, b api.Natural) {
	t.Helper()
	q, r, e := natural.DivMod(a, b)
	if len(b) == 0 {
		if e != api.ErrZero || len(q)+len(r) != 0 {
			t.Errorf("%v by 0 is %v, %v, %d", a, q, r, e)
		}
		return
	}
	quotient, remainder := new(big.Int).QuoRem(toBig(a), toBig(b), new(big.Int))
	if !same(q, e, quotient) || !same(r, e, remainder) {
		t.Errorf("%v by %v is %v, %v, %d", a, b, q, r, e)
	}
}

func TestDivMod(t *testing.T) {
	for _, a := range numbers() {
		for _, b := range numbers() {
			checkDivision(t, a, b)
		}
	}
	if q, r, e := natural.DivMod(api.Natural{7}, api.Natural{2}); e != api.OK || !slices.Equal(q, api.Natural{3}) || !slices.Equal(r, api.Natural{1}) {
		t.Errorf("7 by 2 is %v, %v, %d", q, r, e)
	}
}

// Numbers just below, at and above multiples of the divisor, with leading limbs of every width: there the digits that are guessed are too great.
func TestDivModMultiples(t *testing.T) {
	for width := range 30 {
		for seed := range uint64(40) {
			b := mixed(1+int(seed%7), seed*31+uint64(width))
			b[len(b)-1] = 1<<width | b[len(b)-1]&(1<<width-1)
			product, _ := natural.Mul(b, mixed(1+int(seed%5), seed*17+3))
			above, _ := natural.Add(product, api.Natural{1})
			below, _ := natural.Sub(product, api.Natural{1})
			for _, a := range []api.Natural{below, product, above} {
				checkDivision(t, a, b)
			}
		}
	}
}

// All divisions of numbers whose limbs are edges.
func TestDivModEdges(t *testing.T) {
	edges := []int{0, 1, 1<<29 - 1, 1 << 29, 1<<29 + 1, top - 1, top}
	list := []api.Natural{nil}
	for range 4 {
		for _, n := range list[:len(list):len(list)] {
			for _, limb := range edges {
				list = append(list, append(slices.Clone(n), limb))
			}
		}
		list = slices.DeleteFunc(list, func(n api.Natural) bool { return len(n) > 4 })
		slices.SortFunc(list, func(a, b api.Natural) int { return slices.Compare(a, b) })
		list = slices.CompactFunc(list, func(a, b api.Natural) bool { return slices.Equal(a, b) })
	}
	list = slices.DeleteFunc(list, func(n api.Natural) bool { return !natural.Valid(n) })
	divisors := slices.DeleteFunc(slices.Clone(list), func(n api.Natural) bool { return len(n) > 2 })
	for _, a := range list {
		for _, b := range divisors {
			checkDivision(t, a, b)
		}
	}
}
