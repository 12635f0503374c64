package natural

import (
	"math/bits"
	"slices"

	"routescope/api"
)

const (
	maxPower = 1 << 16 // the greatest exponent of Pow
	maxSet   = 1024    // the greatest set of Choose
)

// Gcd returns the greatest common divisor of a and b.
func Gcd(a, b api.Natural) api.Natural {
	if !Valid(a) || !Valid(b) {
		return nil
	}
	for len(b) > 0 {
		_, remainder := divide(a, b)
		a, b = b, remainder
	}
	return slices.Clone(a)
}

// Pow returns a to the power of k, or api.ErrRange or api.ErrLimit.
func Pow(a api.Natural, k int) (api.Natural, api.Errno) {
	if k < 0 || k > maxPower {
		return nil, api.ErrRange
	}
	power, e := api.Natural{1}, api.OK
	// From the leading bit of k on, no number on the way is greater than the result, so that one beyond the limit says that the result is, too.
	for i := bits.Len(uint(k)) - 1; i >= 0 && e == api.OK; i-- {
		power, e = Mul(power, power)
		if k>>i&1 == 1 && e == api.OK {
			power, e = Mul(power, a)
		}
	}
	return power, e
}

// Choose returns the number of subsets with k elements of a set with n elements, or api.ErrRange.
func Choose(n, k int) (api.Natural, api.Errno) {
	if n < 0 || n > maxSet || k < 0 || k > maxSet {
		return nil, api.ErrRange
	}
	if k > n {
		return nil, api.OK
	}
	ways := api.Natural{1}
	for i := range min(k, n-k) {
		// Each division is exact: ways is the number of subsets with i + 1 elements.
		ways = scale(ways, n-i, 0)
		shrink(ways, i+1)
		ways = trim(ways)
	}
	return ways, api.OK
}
