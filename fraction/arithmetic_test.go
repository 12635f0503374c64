package fraction_test

import (
	"math/big"
	"testing"

	"routescope/api"
	"routescope/fraction"
)

type operation = func(a, b api.Fraction) (api.Fraction, api.Errno)

// operations are all functions of two fractions whose results are fractions.
func operations() map[string]operation {
	return map[string]operation{"Add": fraction.Add, "Sub": fraction.Sub, "Mul": fraction.Mul, "Div": fraction.Div}
}

// P3.2

func TestCompare(t *testing.T) {
	for _, pair := range pairs() {
		a, b := pair[0], pair[1]
		if got, e := fraction.Compare(a, b); got != toRat(a).Cmp(toRat(b)) || e != api.OK {
			t.Errorf("Compare(%v, %v) is %d, %d", a, b, got, e)
		}
	}
}

// The cross products of the greatest parts are compared to their last limb.
func TestCompareClose(t *testing.T) {
	// below is less than less, which is less than more, by 1 each: the cross products of below / less and less / more differ by 1.
	below, less, more := great(64), great(64), great(64)
	below[0] -= 2
	less[0]--
	for _, negative := range []bool{false, true} {
		a := api.Fraction{Negative: negative, Num: below, Den: less}
		b := api.Fraction{Negative: negative, Num: less, Den: more}
		want := -1
		if negative {
			want = 1
		}
		if got, e := fraction.Compare(a, b); got != want || e != api.OK {
			t.Errorf("negative %t: %d, %d", negative, got, e)
		}
		if got, e := fraction.Compare(b, a); got != -want || e != api.OK {
			t.Errorf("negative %t: %d, %d", negative, got, e)
		}
	}
}

// checkOperations compares all four operations with those of math/big.
func checkOperations(t *testing.T, a, b api.Fraction) {
	t.Helper()
	x, y := toRat(a), toRat(b)
	if got, e := fraction.Add(a, b); !same(got, e, new(big.Rat).Add(x, y)) {
		t.Errorf("Add(%v, %v) is %v, %d", a, b, got, e)
	}
	if got, e := fraction.Sub(a, b); !same(got, e, new(big.Rat).Sub(x, y)) {
		t.Errorf("Sub(%v, %v) is %v, %d", a, b, got, e)
	}
	if got, e := fraction.Mul(a, b); !same(got, e, new(big.Rat).Mul(x, y)) {
		t.Errorf("Mul(%v, %v) is %v, %d", a, b, got, e)
	}
	got, e := fraction.Div(a, b)
	if y.Sign() == 0 {
		if e != api.ErrZero || !nothing(got) {
			t.Errorf("Div(%v, %v) is %v, %d", a, b, got, e)
		}
	} else if !same(got, e, new(big.Rat).Quo(x, y)) {
		t.Errorf("Div(%v, %v) is %v, %d", a, b, got, e)
	}
}

func TestOperations(t *testing.T) {
	for _, pair := range pairs() {
		checkOperations(t, pair[0], pair[1])
	}
}

func TestSmallOperations(t *testing.T) {
	for num := -7; num <= 7; num++ {
		for den := 1; den <= 6; den++ {
			for other := -7; other <= 7; other++ {
				for under := 1; under <= 6; under++ {
					checkOperations(t, plain(num, den), plain(other, under))
				}
			}
		}
	}
}

// It is the reduced result whose limbs are counted: the numerator and the denominator each have up to 64.
func TestLimit(t *testing.T) {
	whole := func(n api.Natural) api.Fraction { return api.Fraction{Num: n, Den: api.Natural{1}} }
	part := func(n api.Natural) api.Fraction { return api.Fraction{Num: api.Natural{1}, Den: n} }
	minus := func(f api.Fraction) api.Fraction {
		f.Negative = true
		return f
	}
	for _, x := range []struct {
		name string
		a, b api.Fraction
		want api.Errno
	}{
		{"Add", whole(great(64)), whole(api.Natural{1}), api.ErrLimit},
		{"Add", minus(whole(great(64))), whole(api.Natural{1}), api.OK},
		{"Add", part(great(64)), part(one(64)), api.ErrLimit},
		{"Add", part(great(64)), part(great(64)), api.OK},
		{"Add", whole(great(64)), minus(whole(great(64))), api.OK},
		{"Sub", minus(whole(great(64))), whole(api.Natural{1}), api.ErrLimit},
		{"Sub", whole(great(64)), whole(api.Natural{1}), api.OK},
		{"Sub", whole(great(64)), part(api.Natural{2}), api.ErrLimit},
		{"Sub", part(great(64)), part(great(64)), api.OK},
		{"Mul", whole(one(32)), whole(one(33)), api.OK},
		{"Mul", whole(one(33)), whole(one(33)), api.ErrLimit},
		{"Mul", part(one(32)), part(one(33)), api.OK},
		{"Mul", part(one(33)), part(one(33)), api.ErrLimit},
		{"Mul", whole(great(64)), part(great(64)), api.OK},
		{"Mul", whole(great(64)), whole(great(64)), api.ErrLimit},
		{"Div", whole(one(32)), part(one(33)), api.OK},
		{"Div", whole(one(33)), part(one(33)), api.ErrLimit},
		{"Div", part(one(32)), whole(one(33)), api.OK},
		{"Div", part(one(33)), minus(whole(one(33))), api.ErrLimit},
		{"Div", whole(great(64)), whole(great(64)), api.OK},
	} {
		if got, e := operations()[x.name](x.a, x.b); e != x.want || nothing(got) != (e != api.OK) {
			t.Errorf("%s of %s and %s is %v, %d", x.name, fraction.Text(x.a), fraction.Text(x.b), got, e)
		}
		checkOperations(t, x.a, x.b)
	}
}

// The laws of a field, and that Compare agrees with the sign of Sub.
func TestLaws(t *testing.T) {
	zero, unit := plain(0, 1), plain(1, 1)
	var list []api.Fraction
	for num := -3; num <= 3; num++ {
		for den := 1; den <= 3; den++ {
			list = append(list, plain(num, den))
		}
	}
	list = append(list, api.Fraction{Num: mixed(5, 11), Den: mixed(4, 12)}, api.Fraction{Negative: true, Num: mixed(3, 13), Den: mixed(6, 14)})
	do := func(f operation, a, b api.Fraction) api.Fraction {
		c, e := f(a, b)
		if e != api.OK {
			t.Errorf("%v and %v: %d", a, b, e)
		}
		return c
	}
	add, sub, mul, div := fraction.Add, fraction.Sub, fraction.Mul, fraction.Div
	for _, a := range list {
		reduced := fraction.Reduce(a)
		if !equal(do(add, a, zero), reduced) || !equal(do(mul, a, unit), reduced) || !equal(do(sub, a, a), zero) || len(a.Num) > 0 && !equal(do(div, a, a), unit) {
			t.Errorf("the laws of 0 and 1 do not hold for %v", a)
		}
		for _, b := range list {
			sign, difference := 0, do(sub, a, b)
			if len(difference.Num) > 0 {
				sign = 1
			}
			if difference.Negative {
				sign = -1
			}
			if got, _ := fraction.Compare(a, b); got != sign {
				t.Errorf("Compare(%v, %v) is %d, and the difference %v", a, b, got, difference)
			}
			if !equal(do(add, a, b), do(add, b, a)) || !equal(do(mul, a, b), do(mul, b, a)) || !equal(do(add, difference, b), reduced) || len(b.Num) > 0 && !equal(do(mul, do(div, a, b), b), reduced) {
				t.Errorf("the laws of opposites do not hold for %v and %v", a, b)
			}
			for _, c := range list {
				if !equal(do(add, do(add, a, b), c), do(add, a, do(add, b, c))) || !equal(do(mul, do(mul, a, b), c), do(mul, a, do(mul, b, c))) || !equal(do(mul, a, do(add, b, c)), do(add, do(mul, a, b), do(mul, a, c))) {
					t.Errorf("the laws of three do not hold for %v, %v and %v", a, b, c)
				}
			}
		}
	}
}
