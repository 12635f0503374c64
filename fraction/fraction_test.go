package fraction_test

import (
	"math"
	"math/big"
	"slices"
	"testing"

	"routescope/api"
	"routescope/fraction"
)

const top = 1<<30 - 1 // the greatest limb

// great returns a part whose limbs are all the greatest.
func great(limbs int) api.Natural { return slices.Repeat(api.Natural{top}, limbs) }

// one returns the power of the base with so many limbs.
func one(limbs int) api.Natural {
	n := make(api.Natural, limbs)
	n[limbs-1] = 1
	return n
}

// mixed returns a part whose limbs follow from a seed.
func mixed(limbs int, seed uint64) api.Natural {
	n := make(api.Natural, limbs)
	for i := range n {
		seed = seed*6364136223846793005 + 1442695040888963407
		n[i] = int(seed >> 33 & top)
	}
	n[limbs-1] |= 1
	return n
}

// parts returns parts of fractions: edges, and numbers of many lengths, with and without common divisors.
func parts() []api.Natural {
	return []api.Natural{
		nil, {1}, {2}, {3}, {4}, {6}, {7}, {30}, {top}, {0, 1}, {1, 1}, {0, 3}, {0, 0, 4}, {1, 0, 4}, {1, 0, 8},
		mixed(2, 1), mixed(5, 2), mixed(32, 3), mixed(33, 4), mixed(63, 5), mixed(64, 6),
		one(32), one(33), one(63), one(64), great(32), great(63), great(64),
	}
}

// fractions returns all valid fractions of these parts.
func fractions() []api.Fraction {
	var list []api.Fraction
	for _, num := range parts() {
		for _, den := range parts()[1:] {
			list = append(list, api.Fraction{Num: num, Den: den})
			if len(num) > 0 {
				list = append(list, api.Fraction{Negative: true, Num: num, Den: den})
			}
		}
	}
	return list
}

// few returns some of them, of many lengths and both signs, and small ones: few enough for all pairs.
func few() []api.Fraction {
	var list []api.Fraction
	for i, f := range fractions() {
		if i%61 == 0 {
			list = append(list, f)
		}
	}
	for num := -4; num <= 4; num++ {
		for den := 1; den <= 4; den++ {
			list = append(list, plain(num, den))
		}
	}
	return list
}

// pairs returns each of the fractions with another one, and all pairs of few ones.
func pairs() [][2]api.Fraction {
	list := fractions()
	var all [][2]api.Fraction
	for i, f := range list {
		all = append(all, [2]api.Fraction{f, list[(i*37+11)%len(list)]})
	}
	for _, f := range few() {
		for _, g := range few() {
			all = append(all, [2]api.Fraction{f, g})
		}
	}
	return all
}

// plain returns num / den, which need not be reduced.
func plain(num, den int) api.Fraction {
	f := api.Fraction{Negative: num < 0, Den: api.Natural{den}}
	if num != 0 {
		f.Num = api.Natural{max(num, -num)}
	}
	return f
}

// invalid returns what is not a valid fraction.
func invalid() []api.Fraction {
	bad := []api.Natural{
		{0}, {1, 0}, {-1}, {1, -1}, {-1, 1}, {1 << 30}, {1, 1 << 30}, {math.MinInt}, {math.MaxInt, 1},
		great(65), one(65), great(256), great(257), append(great(64), 0), slices.Repeat(api.Natural{-1}, 300),
	}
	list := []api.Fraction{
		{}, {Negative: true}, {Num: api.Natural{1}}, {Negative: true, Num: api.Natural{1}}, {Num: great(64)},
		{Negative: true, Den: api.Natural{1}}, {Negative: true, Den: great(64)},
	}
	for i, n := range bad {
		list = append(list,
			api.Fraction{Num: n, Den: api.Natural{1}}, api.Fraction{Negative: true, Num: n, Den: great(64)},
			api.Fraction{Num: api.Natural{1}, Den: n}, api.Fraction{Negative: true, Num: great(64), Den: n}, api.Fraction{Den: n},
			api.Fraction{Num: n, Den: n}, api.Fraction{Num: n, Den: bad[(i+1)%len(bad)]})
	}
	return list
}

// toBig is the value of a part by its definition.
func toBig(n api.Natural) *big.Int {
	sum := new(big.Int)
	for _, limb := range slices.Backward(n) {
		sum.Add(sum.Lsh(sum, 30), big.NewInt(int64(limb)))
	}
	return sum
}

// toRat is the value of a fraction by its definition.
func toRat(f api.Fraction) *big.Rat {
	r := new(big.Rat).SetFrac(toBig(f.Num), toBig(f.Den))
	if f.Negative {
		r.Neg(r)
	}
	return r
}

// fromBig returns the limbs of a number that may be too great for a part.
func fromBig(b *big.Int) api.Natural {
	var n api.Natural
	for rest := new(big.Int).Abs(b); rest.Sign() > 0; rest.Rsh(rest, 30) {
		n = append(n, int(new(big.Int).And(rest, big.NewInt(top)).Int64()))
	}
	return n
}

// equal reports whether two fractions have the same sign and the same limbs.
func equal(f, g api.Fraction) bool {
	return f.Negative == g.Negative && slices.Equal(f.Num, g.Num) && slices.Equal(f.Den, g.Den)
}

// nothing reports whether f is what an error comes with.
func nothing(f api.Fraction) bool { return equal(f, api.Fraction{}) }

// same reports whether a result is the reduced fraction r, or, if it has too many limbs, api.ErrLimit with nothing.
func same(got api.Fraction, e api.Errno, r *big.Rat) bool {
	want := api.Fraction{Negative: r.Sign() < 0, Num: fromBig(r.Num()), Den: fromBig(r.Denom())}
	if len(want.Num) > 64 || len(want.Den) > 64 {
		return e == api.ErrLimit && nothing(got)
	}
	return e == api.OK && equal(got, want)
}

// P3.1

func TestValid(t *testing.T) {
	for _, f := range fractions() {
		if !fraction.Valid(f) {
			t.Errorf("%v is refused", f)
		}
	}
	for _, f := range invalid() {
		if fraction.Valid(f) {
			t.Errorf("%v is taken", f)
		}
	}
}

func TestFrom(t *testing.T) {
	ints := []int{0, 1, 2, 3, 4, 6, 7, 30, top, top + 1, top + 2, 1 << 31, 1 << 60, 6 << 59, 1 << 62, math.MaxInt - 1, math.MaxInt}
	for _, n := range slices.Clone(ints) {
		ints = append(ints, -n)
	}
	ints = append(ints, math.MinInt, math.MinInt+1)
	for _, num := range ints {
		for _, den := range ints {
			f, e := fraction.From(num, den)
			if den == 0 {
				if e != api.ErrZero || !nothing(f) {
					t.Errorf("%d by 0 is %v, %d", num, f, e)
				}
			} else if !same(f, e, new(big.Rat).SetFrac(big.NewInt(int64(num)), big.NewInt(int64(den)))) {
				t.Errorf("From(%d, %d) is %v, %d", num, den, f, e)
			}
		}
	}
}

func TestReduce(t *testing.T) {
	for _, f := range fractions() {
		if got := fraction.Reduce(f); !same(got, api.OK, toRat(f)) {
			t.Errorf("%v is reduced to %v", f, got)
		}
	}
}

// All that is reduced has the one form of its value, and stays as it is.
func TestReduceTwice(t *testing.T) {
	for den := 1; den <= 40; den++ {
		for num := -40; num <= 40; num++ {
			f, _ := fraction.From(num, den)
			if got := fraction.Reduce(plain(num, den)); !equal(got, f) {
				t.Errorf("%d / %d is reduced to %v", num, den, got)
			}
			if got := fraction.Reduce(f); !equal(got, f) {
				t.Errorf("%v is reduced to %v", f, got)
			}
		}
	}
}

// P3.3

// integer returns an int of a result, or none if it is not from -2^62 to 2^62.
func integer(b *big.Int) (int, api.Errno) {
	if b.CmpAbs(big.NewInt(1<<62)) > 0 {
		return 0, api.ErrRange
	}
	return int(b.Int64()), api.OK
}

// checkRounding compares both roundings with the division of math/big, which rounds down for divisors greater than 0.
func checkRounding(t *testing.T, f api.Fraction) {
	t.Helper()
	r := toRat(f)
	floor, rest := new(big.Int).DivMod(r.Num(), r.Denom(), new(big.Int))
	ceil := new(big.Int).Add(floor, big.NewInt(int64(rest.Sign())))
	want, e := integer(floor)
	if got, g := fraction.Floor(f); got != want || g != e {
		t.Errorf("Floor(%s) is %d, %d", r, got, g)
	}
	want, e = integer(ceil)
	if got, g := fraction.Ceil(f); got != want || g != e {
		t.Errorf("Ceil(%s) is %d, %d", r, got, g)
	}
}

func TestRounding(t *testing.T) {
	for _, f := range fractions() {
		checkRounding(t, f)
	}
	for den := 1; den <= 12; den++ {
		for num := -40; num <= 40; num++ {
			checkRounding(t, plain(num, den))
		}
	}
}

// Around 2^62 and -2^62, for denominators of one limb and of many.
func TestRoundingRange(t *testing.T) {
	bound := big.NewInt(1 << 62)
	for _, den := range []api.Natural{{1}, {2}, {3}, {top}, {0, 1}, mixed(5, 8), great(61)} {
		for _, offset := range []int64{-2, -1, 0, 1, 2} {
			num := new(big.Int).Mul(bound, toBig(den))
			num.Add(num, big.NewInt(offset))
			for _, negative := range []bool{false, true} {
				checkRounding(t, api.Fraction{Negative: negative, Num: fromBig(num), Den: den})
			}
		}
	}
	if n, e := fraction.Floor(plain(-1, 2)); n != -1 || e != api.OK {
		t.Errorf("Floor(-1/2) is %d, %d", n, e)
	}
}

// R1, R4

// Also what is not a fraction ends every function without a panic, and an error comes with nothing else.
func TestInvalidFractions(t *testing.T) {
	bad := invalid()
	others := append([]api.Fraction{plain(0, 1), plain(1, 2), plain(-3, 1), {Num: great(64), Den: one(64)}}, bad...)
	for _, f := range bad {
		fraction.Reduce(f)
		fraction.Text(f)
		if n, e := fraction.Floor(f); e != api.OK && n != 0 {
			t.Errorf("Floor(%v) is %d with the error %d", f, n, e)
		}
		if n, e := fraction.Ceil(f); e != api.OK && n != 0 {
			t.Errorf("Ceil(%v) is %d with the error %d", f, n, e)
		}
		for _, g := range others {
			for _, pair := range [][2]api.Fraction{{f, g}, {g, f}} {
				if n, e := fraction.Compare(pair[0], pair[1]); n < -1 || n > 1 || e != api.OK {
					t.Errorf("Compare(%v, %v) is %d, %d", pair[0], pair[1], n, e)
				}
				for name, do := range operations() {
					if got, e := do(pair[0], pair[1]); e != api.OK && !nothing(got) {
						t.Errorf("%s(%v, %v) is %v with the error %d", name, pair[0], pair[1], got, e)
					}
				}
			}
		}
	}
}

// R2

// guarded returns a copy of f whose parts are followed by limbs in their spare capacity, and a function that reports whether all of them are still there.
func guarded(f api.Fraction) (api.Fraction, func() bool) {
	num, den := append(slices.Clone(f.Num), 71, 72, 73), append(slices.Clone(f.Den), 74, 75, 76)
	firstNum, firstDen := slices.Clone(num), slices.Clone(den)
	guard := api.Fraction{Negative: f.Negative, Num: num[:len(f.Num)], Den: den[:len(f.Den)]}
	return guard, func() bool { return slices.Equal(num, firstNum) && slices.Equal(den, firstDen) }
}

// overwrite fills all that n holds and could hold.
func overwrite(n api.Natural) {
	for i := range n[:cap(n)] {
		n[:cap(n)][i] = -5
	}
}

// Arguments stay as they are, with their spare capacity, also when a result is overwritten; and so does one part of a result when the other one is.
func TestMemory(t *testing.T) {
	all := operations()
	all["Reduce"] = func(a, _ api.Fraction) (api.Fraction, api.Errno) { return fraction.Reduce(a), api.OK }
	list := few()
	for name, do := range all {
		for i, f := range list {
			for _, g := range []api.Fraction{list[(i*5+1)%len(list)], plain(1, 1), plain(0, 1), f} {
				a, sameA := guarded(f)
				b, sameB := guarded(g)
				got, e := do(a, b)
				fraction.Compare(a, b)
				fraction.Floor(a)
				fraction.Ceil(a)
				fraction.Text(a)
				den := slices.Clone(got.Den)
				overwrite(got.Num)
				if !slices.Equal(got.Den, den) {
					t.Errorf("%s(%v, %v): the parts share memory", name, f, g)
				}
				overwrite(got.Den)
				if !sameA() || !sameB() {
					t.Errorf("%s(%v, %v) touches its arguments", name, f, g)
				}
				if again, h := do(a, b); h != e || !slices.Equal(again.Den, den) {
					t.Errorf("%s(%v, %v) is another fraction the second time", name, f, g)
				}
			}
		}
	}
}
