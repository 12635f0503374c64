package natural_test

import (
	"math"
	"math/big"
	"slices"
	"testing"

	"routescope/api"
	"routescope/natural"
)

// P2.3

func TestGcd(t *testing.T) {
	for _, a := range numbers() {
		for _, b := range numbers() {
			want := new(big.Int).GCD(nil, nil, toBig(a), toBig(b))
			if got := natural.Gcd(a, b); !slices.Equal(got, fromBig(want)) {
				t.Errorf("Gcd(%v, %v) is %v", a, b, got)
			}
		}
	}
}

func TestGcdOfMultiples(t *testing.T) {
	for seed := range uint64(30) {
		common := mixed(1+int(seed%20), seed+100)
		a, _ := natural.Mul(common, mixed(1+int(seed%9), seed+200))
		b, _ := natural.Mul(common, mixed(1+int(seed%11), seed+300))
		got := natural.Gcd(a, b)
		if want := new(big.Int).GCD(nil, nil, toBig(a), toBig(b)); !slices.Equal(got, fromBig(want)) {
			t.Errorf("Gcd(%v, %v) is %v", a, b, got)
		}
		if _, r, _ := natural.DivMod(got, common); len(r) != 0 {
			t.Errorf("the common divisor %v does not divide %v", common, got)
		}
	}
}

func TestPow(t *testing.T) {
	for _, a := range numbers() {
		for _, k := range []int{0, 1, 2, 3, 4, 5, 7, 8, 15, 16, 17, 63, 85, 86, 255, 256, 257} {
			want := big.NewInt(1)
			for range k {
				want.Mul(want, toBig(a))
				if want.BitLen() > 30*256 {
					break
				}
			}
			if got, e := natural.Pow(a, k); !same(got, e, want) {
				t.Errorf("power %d of %v is %v, %d", k, a, got, e)
			}
		}
	}
}

// The number of limbs of the result alone decides, not that of the next square.
func TestPowLimit(t *testing.T) {
	for _, x := range []struct {
		a api.Natural
		k int
	}{{api.Natural{2}, 7679}, {api.Natural{2}, 4095}, {api.Natural{2}, 4097}, {api.Natural{3}, 4845}, {api.Natural{10}, 2311}, {api.Natural{0, 1}, 255}, {api.Natural{0, 0, 1}, 127}, {one(128), 2}, {one(256), 1}, {great(256), 1}, {great(128), 2}, {great(85), 3}} {
		want := new(big.Int).Exp(toBig(x.a), big.NewInt(int64(x.k)), nil)
		if got, e := natural.Pow(x.a, x.k); e != api.OK || !slices.Equal(got, fromBig(want)) {
			t.Errorf("power %d of %v is %v, %d", x.k, x.a, got, e)
		}
	}
	for _, x := range []struct {
		a api.Natural
		k int
	}{{api.Natural{2}, 7680}, {api.Natural{2}, 1 << 16}, {api.Natural{3}, 4846}, {api.Natural{10}, 2312}, {api.Natural{0, 1}, 256}, {api.Natural{0, 0, 1}, 128}, {one(129), 2}, {great(86), 3}, {great(256), 2}, {great(256), 1 << 16}} {
		if got, e := natural.Pow(x.a, x.k); e != api.ErrLimit || len(got) != 0 {
			t.Errorf("power %d of %v is %v, %d", x.k, x.a, got, e)
		}
	}
}

func TestPowRange(t *testing.T) {
	for _, x := range []struct {
		a, want api.Natural
		k       int
	}{{nil, api.Natural{1}, 0}, {nil, nil, 1}, {nil, nil, 1 << 16}, {api.Natural{1}, api.Natural{1}, 0}, {api.Natural{1}, api.Natural{1}, 1 << 16}, {great(256), api.Natural{1}, 0}} {
		if got, e := natural.Pow(x.a, x.k); e != api.OK || !slices.Equal(got, x.want) {
			t.Errorf("power %d of %v is %v, %d", x.k, x.a, got, e)
		}
	}
	for _, k := range []int{-1, -2, math.MinInt, 1<<16 + 1, 1 << 17, 1 << 32, math.MaxInt} {
		for _, a := range []api.Natural{nil, {1}, {2}, great(256)} {
			if got, e := natural.Pow(a, k); e != api.ErrRange || len(got) != 0 {
				t.Errorf("power %d of %v is %v, %d", k, a, got, e)
			}
		}
	}
}

func TestChoose(t *testing.T) {
	check := func(n, k int) {
		got, e := natural.Choose(n, k)
		if want := new(big.Int).Binomial(int64(n), int64(k)); !same(got, e, want) {
			t.Errorf("%d of %d: %v, %d", k, n, got, e)
		}
	}
	for n := range 140 {
		for k := range 140 {
			check(n, k)
		}
	}
	for _, n := range []int{255, 256, 257, 511, 512, 600, 777, 1000, 1023, 1024} {
		for _, k := range []int{0, 1, 2, 3, 30, 127, 128, n / 3, n / 2, n/2 + 1, n - 2, n - 1, n, 1024} {
			check(n, k)
		}
	}
	if got, e := natural.Choose(4, 2); e != api.OK || !slices.Equal(got, api.Natural{6}) {
		t.Errorf("2 of 4: %v, %d", got, e)
	}
}

func TestChooseRange(t *testing.T) {
	for _, bad := range []int{-1, math.MinInt, 1025, 1026, 1 << 32, math.MaxInt} {
		for _, good := range []int{0, 1, 512, 1024} {
			if got, e := natural.Choose(bad, good); e != api.ErrRange || len(got) != 0 {
				t.Errorf("%d of %d: %v, %d", good, bad, got, e)
			}
			if got, e := natural.Choose(good, bad); e != api.ErrRange || len(got) != 0 {
				t.Errorf("%d of %d: %v, %d", bad, good, got, e)
			}
		}
		if got, e := natural.Choose(bad, bad); e != api.ErrRange || len(got) != 0 {
			t.Errorf("%d of %d: %v, %d", bad, bad, got, e)
		}
	}
	for _, k := range []int{1, 2, 1023, 1024} {
		if got, e := natural.Choose(k-1, k); e != api.OK || len(got) != 0 {
			t.Errorf("%d of %d: %v, %d", k, k-1, got, e)
		}
	}
}
