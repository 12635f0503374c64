package address_test

import (
	"math"
	"slices"
	"testing"

	"routescope/address"
	"routescope/api"
)

const last = api.Address(math.MaxUint32)

// somewhere holds addresses at which bits, bytes and the whole space begin or end.
var somewhere = []api.Address{0, 1, 2, 3, 4, 7, 8, 255, 256, 1 << 24, 10 << 24, 10<<24 | 1, 127<<24 | 1, 1<<31 - 1, 1 << 31, 1<<31 + 1, 0xC0000205, 0xAAAAAAAA, last - 2, last - 1, last}

// odd holds lengths that no prefix has.
var odd = []int{math.MinInt, -33, -32, -1, 33, 34, 63, 64, 65, 1 << 32, math.MaxInt}

// size returns the number of addresses of a prefix; unlike the package it never shifts an address.
func size(length int) uint64 {
	n := uint64(1)
	for range 32 - length {
		n *= 2
	}
	return n
}

// aligned is Valid by arithmetic instead of bits.
func aligned(p api.Prefix) bool {
	return 0 <= p.Len && p.Len <= 32 && uint64(p.Address)%size(p.Len) == 0
}

func prefixes() []api.Prefix {
	var list []api.Prefix
	for _, a := range somewhere {
		for n := -2; n <= 35; n++ {
			list = append(list, api.Prefix{Address: a, Len: n})
		}
		for _, n := range odd {
			list = append(list, api.Prefix{Address: a, Len: n})
		}
	}
	return list
}

// P1.2

func TestValid(t *testing.T) {
	for _, p := range prefixes() {
		if got := address.Valid(p); got != aligned(p) {
			t.Errorf("Valid(%v) is %t", p, got)
		}
	}
	for n := 1; n <= 32; n++ {
		p := api.Prefix{Address: 1 << (32 - n), Len: n}
		if !address.Valid(p) {
			t.Errorf("%v is refused", p)
		}
		if p.Len--; address.Valid(p) {
			t.Errorf("%v is taken", p)
		}
	}
}

func TestBounds(t *testing.T) {
	for _, p := range prefixes() {
		got, e := address.Bounds(p)
		if !aligned(p) {
			if e != api.ErrAddress || got != (api.Range{}) {
				t.Errorf("Bounds(%v) is %v, %d", p, got, e)
			}
			continue
		}
		want := api.Range{Low: p.Address, High: api.Address(uint64(p.Address) + size(p.Len) - 1)}
		if e != api.OK || got != want {
			t.Errorf("Bounds(%v) is %v, %d", p, got, e)
		}
	}
}

func TestContains(t *testing.T) {
	for _, p := range prefixes() {
		for _, a := range somewhere {
			want := aligned(p) && a >= p.Address && uint64(a) < uint64(p.Address)+size(p.Len)
			if got := address.Contains(p, a); got != want {
				t.Errorf("Contains(%v, %d) is %t", p, a, got)
			}
		}
	}
	for n := 0; n <= 32; n++ {
		p := api.Prefix{Address: 1 << 31, Len: n}
		if n == 0 {
			p.Address = 0
		}
		r, _ := address.Bounds(p)
		if !address.Contains(p, r.Low) || !address.Contains(p, r.High) {
			t.Errorf("%v lacks a bound", p)
		}
		if r.Low > 0 && address.Contains(p, r.Low-1) || r.High < last && address.Contains(p, r.High+1) {
			t.Errorf("%v exceeds a bound", p)
		}
	}
}

func TestCovers(t *testing.T) {
	list := prefixes()
	for _, p := range list {
		for _, q := range list {
			want := aligned(p) && aligned(q) && p.Address <= q.Address && uint64(q.Address)+size(q.Len) <= uint64(p.Address)+size(p.Len)
			if got := address.Covers(p, q); got != want {
				t.Fatalf("Covers(%v, %v) is %t", p, q, got)
			}
		}
	}
}

func TestDisjointOrCovered(t *testing.T) {
	list := slices.DeleteFunc(prefixes(), func(p api.Prefix) bool { return !aligned(p) })
	for _, p := range list {
		for _, q := range list {
			a, _ := address.Bounds(p)
			b, _ := address.Bounds(q)
			if apart := a.High < b.Low || b.High < a.Low; apart == (address.Covers(p, q) || address.Covers(q, p)) {
				t.Fatalf("%v and %v are neither disjoint nor nested, or both", p, q)
			}
		}
	}
}

func TestCompare(t *testing.T) {
	ascending := []api.Prefix{
		{Address: 0, Len: math.MinInt}, {Address: 0, Len: -1}, {Address: 0, Len: 0}, {Address: 0, Len: 32}, {Address: 0, Len: 33}, {Address: 0, Len: math.MaxInt},
		{Address: 1, Len: math.MinInt}, {Address: 1, Len: 31}, {Address: 1, Len: 32},
		{Address: 1 << 31, Len: 1}, {Address: 1<<31 + 1, Len: 0},
		{Address: last, Len: math.MinInt}, {Address: last, Len: 0}, {Address: last, Len: math.MaxInt},
	}
	for i, p := range ascending {
		for j, q := range ascending {
			want := 0
			if i < j {
				want = -1
			} else if i > j {
				want = 1
			}
			if got := address.Compare(p, q); got != want {
				t.Errorf("Compare(%v, %v) is %d", p, q, got)
			}
		}
	}
}

// P1.3

func TestCommon(t *testing.T) {
	for _, a := range somewhere {
		for _, b := range somewhere {
			got := address.Common(a, b)
			if !address.Contains(got, a) || !address.Contains(got, b) {
				t.Errorf("Common(%d, %d) is %v", a, b, got)
			}
			if low, high, ok := address.Halves(got); ok && (address.Contains(low, a) == address.Contains(low, b) || address.Contains(high, a) == address.Contains(high, b)) {
				t.Errorf("Common(%d, %d) is %v, but a half contains both", a, b, got)
			}
		}
		for bit := range 32 {
			b := a ^ 1<<bit
			if got := address.Common(a, b); got.Len != 31-bit || !address.Contains(got, a) || !address.Contains(got, b) {
				t.Errorf("Common(%d, %d) is %v", a, b, got)
			}
		}
	}
	if got := address.Common(5, 5); got != (api.Prefix{Address: 5, Len: 32}) {
		t.Errorf("an address has the prefix %v", got)
	}
}

func TestHalves(t *testing.T) {
	for _, p := range prefixes() {
		low, high, ok := address.Halves(p)
		if !aligned(p) || p.Len == 32 {
			if ok || low != (api.Prefix{}) || high != (api.Prefix{}) {
				t.Errorf("Halves(%v) is %v, %v, %t", p, low, high, ok)
			}
			continue
		}
		wantLow := api.Prefix{Address: p.Address, Len: p.Len + 1}
		wantHigh := api.Prefix{Address: p.Address + api.Address(size(p.Len+1)), Len: p.Len + 1}
		if !ok || low != wantLow || high != wantHigh {
			t.Errorf("Halves(%v) is %v, %v, %t", p, low, high, ok)
		}
	}
}

// exact checks that a cover has the addresses of a range and nothing else, ascending.
func exact(t *testing.T, r api.Range, list []api.Prefix) {
	t.Helper()
	next := uint64(r.Low)
	for i, p := range list {
		if !aligned(p) || uint64(p.Address) != next {
			t.Fatalf("Cover(%v) is %v", r, list)
		}
		next += size(p.Len)
		if i > 0 {
			c := address.Common(list[i-1].Address, p.Address)
			low, high, _ := address.Halves(c)
			if low == list[i-1] && high == p {
				t.Fatalf("Cover(%v) is %v, with both halves of %v", r, list, c)
			}
		}
	}
	if next != uint64(r.High)+1 || len(list) > 62 {
		t.Fatalf("Cover(%v) is %v", r, list)
	}
}

// fewest returns, for each address from low to high, how many prefixes the shortest cover from there to high has.
func fewest(low, high uint64) map[uint64]int {
	least := map[uint64]int{high + 1: 0}
	for a := high; ; a-- {
		best := math.MaxInt
		for n := uint64(1); a%n == 0 && a+n <= high+1; n *= 2 {
			best = min(best, 1+least[a+n])
		}
		least[a] = best
		if a == low {
			return least
		}
	}
}

func TestCoverIsShortest(t *testing.T) {
	for _, base := range []uint64{0, 10<<24 - 20, 1<<31 - 20, 1<<32 - 41} {
		for high := base; high <= base+40; high++ {
			least := fewest(base, high)
			for low := base; low <= high; low++ {
				r := api.Range{Low: api.Address(low), High: api.Address(high)}
				list := address.Cover(r)
				exact(t, r, list)
				if len(list) != least[low] {
					t.Fatalf("Cover(%v) has %d prefixes, not %d", r, len(list), least[low])
				}
			}
		}
	}
}

func TestCoverOfLargeRanges(t *testing.T) {
	for _, low := range somewhere {
		for _, high := range somewhere {
			r := api.Range{Low: low, High: high}
			list := address.Cover(r)
			if low <= high {
				exact(t, r, list)
			} else if len(list) != 0 {
				t.Errorf("Cover(%v) is %v", r, list)
			}
		}
	}
	if list := address.Cover(api.Range{Low: 1, High: last - 1}); len(list) != 62 {
		t.Errorf("the longest cover has %d prefixes", len(list))
	}
	if list := address.Cover(api.Range{High: last}); !slices.Equal(list, []api.Prefix{{}}) {
		t.Errorf("all addresses are covered by %v", list)
	}
}

func TestCoverOfPrefixes(t *testing.T) {
	for _, p := range prefixes() {
		if r, e := address.Bounds(p); e == api.OK {
			if list := address.Cover(r); !slices.Equal(list, []api.Prefix{p}) {
				t.Errorf("the addresses of %v are covered by %v", p, list)
			}
		}
	}
}

func TestCoverExample(t *testing.T) {
	list := address.Cover(api.Range{Low: 10<<24 | 1, High: 10<<24 | 4})
	var texts []string
	for _, p := range list {
		texts = append(texts, address.FormatPrefix(p))
	}
	if !slices.Equal(texts, []string{"10.0.0.1/32", "10.0.0.2/31", "10.0.0.4/32"}) {
		t.Errorf("the example is covered by %v", texts)
	}
}

// P1.4

func TestSpecial(t *testing.T) {
	for _, x := range []struct {
		low, high string
		kind      int
	}{
		{"0.0.0.0", "0.255.255.255", 1},
		{"1.0.0.0", "9.255.255.255", 0},
		{"10.0.0.0", "10.255.255.255", 3},
		{"11.0.0.0", "126.255.255.255", 0},
		{"127.0.0.0", "127.255.255.255", 2},
		{"128.0.0.0", "169.253.255.255", 0},
		{"169.254.0.0", "169.254.255.255", 4},
		{"169.255.0.0", "172.15.255.255", 0},
		{"172.16.0.0", "172.31.255.255", 3},
		{"172.32.0.0", "192.167.255.255", 0},
		{"192.168.0.0", "192.168.255.255", 3},
		{"192.169.0.0", "223.255.255.255", 0},
		{"224.0.0.0", "239.255.255.255", 5},
		{"240.0.0.0", "255.255.255.255", 6},
	} {
		low, e := address.Parse(x.low)
		high, f := address.Parse(x.high)
		if e != api.OK || f != api.OK {
			t.Fatalf("%s or %s is not read", x.low, x.high)
		}
		for _, a := range []api.Address{low, low + 1, low + (high-low)/2, high - 1, high} {
			if got := address.Special(a); got != x.kind {
				t.Errorf("%s has the kind %d, not %d", address.Format(a), got, x.kind)
			}
		}
	}
}

// P1.5

func TestMateOf31(t *testing.T) {
	for _, a := range somewhere {
		even := a - a%2
		for _, x := range [][2]api.Address{{even, even + 1}, {even + 1, even}} {
			if got, e := address.Mate(x[0], 31); e != api.OK || got != x[1] {
				t.Errorf("Mate(%d, 31) is %d, %d", x[0], got, e)
			}
		}
	}
}

func TestMateOf30(t *testing.T) {
	for _, a := range somewhere {
		first := a - a%4
		for _, x := range [][2]api.Address{{first + 1, first + 2}, {first + 2, first + 1}} {
			if got, e := address.Mate(x[0], 30); e != api.OK || got != x[1] {
				t.Errorf("Mate(%d, 30) is %d, %d", x[0], got, e)
			}
		}
		for _, outer := range []api.Address{first, first + 3} {
			if got, e := address.Mate(outer, 30); e != api.ErrAddress || got != 0 {
				t.Errorf("Mate(%d, 30) is %d, %d", outer, got, e)
			}
		}
	}
}

func TestMateOfOtherLengths(t *testing.T) {
	for _, a := range somewhere {
		for _, n := range append([]int{0, 1, 24, 28, 29, 32}, odd...) {
			if got, e := address.Mate(a, n); e != api.ErrRange || got != 0 {
				t.Errorf("Mate(%d, %d) is %d, %d", a, n, got, e)
			}
		}
	}
}

func TestMateOfMate(t *testing.T) {
	for _, a := range somewhere {
		for _, n := range []int{30, 31} {
			b, e := address.Mate(a, n)
			if e != api.OK {
				continue
			}
			if c, f := address.Mate(b, n); f != api.OK || c != a || address.Common(a, b).Len != n {
				t.Errorf("the mate of %d is %d, and its mate %d, %d", a, b, c, f)
			}
		}
	}
}
