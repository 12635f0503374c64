package natural

import (
	"math/bits"
	"slices"

	"routescope/api"
)

// Add returns the sum of a and b, or api.ErrLimit.
func Add(a, b api.Natural) (api.Natural, api.Errno) {
	if !Valid(a) || !Valid(b) {
		return nil, api.ErrForm
	}
	var sum api.Natural
	for i, carry := 0, 0; i < len(a) || i < len(b) || carry > 0; i++ {
		carry += limb(a, i) + limb(b, i)
		sum = append(sum, carry&mask)
		carry >>= width
	}
	return fit(sum)
}

// Sub returns a minus b, or api.ErrNegative.
func Sub(a, b api.Natural) (api.Natural, api.Errno) {
	if !Valid(a) || !Valid(b) {
		return nil, api.ErrForm
	}
	if Compare(a, b) < 0 {
		return nil, api.ErrNegative
	}
	rest := slices.Clone(a)
	addTimes(rest, b, -1)
	return trim(rest), api.OK
}

// Mul returns the product of a and b, or api.ErrLimit.
func Mul(a, b api.Natural) (api.Natural, api.Errno) {
	if !Valid(a) || !Valid(b) {
		return nil, api.ErrForm
	}
	product := make(api.Natural, len(a)+len(b))
	for i := range len(a) {
		addTimes(product[i:i+len(b)+1], b, a[i])
	}
	return fit(trim(product))
}

// DivMod returns the quotient of a and b, rounded down, and the remainder, or api.ErrZero.
func DivMod(a, b api.Natural) (api.Natural, api.Natural, api.Errno) {
	if !Valid(a) || !Valid(b) {
		return nil, nil, api.ErrForm
	}
	if len(b) == 0 {
		return nil, nil, api.ErrZero
	}
	quotient, remainder := divide(a, b)
	return quotient, remainder, api.OK
}

// divide is the long division. Both numbers are first multiplied by a power of two, so that the leading limb of the divisor is at least half of base: then the digits that digit guesses are hardly too great.
func divide(a, b api.Natural) (quotient, remainder api.Natural) {
	if len(a) < len(b) {
		return nil, slices.Clone(a)
	}
	factor := 1 << (width - bits.Len(uint(b[len(b)-1])))
	rest, divisor := make(api.Natural, len(a)+1), make(api.Natural, len(b))
	addTimes(rest, a, factor)
	addTimes(divisor, b, factor)
	quotient = make(api.Natural, len(a)-len(b)+1)
	for i := range slices.Backward(quotient) {
		quotient[i] = digit(rest[i:i+len(b)+1], divisor)
	}
	shrink(rest, factor)
	return trim(quotient), trim(rest)
}

// digit divides rest by divisor, whose quotient is less than base, leaves the remainder in rest, and returns the quotient.
func digit(rest, divisor api.Natural) int {
	n := len(divisor)
	guess := min((rest[n]<<width+rest[n-1])/divisor[n-1], mask)
	for sign := addTimes(rest, divisor, -guess); sign < 0; guess-- {
		sign += addTimes(rest, divisor, 1)
	}
	return guess
}

// limb returns the limb i of n, also beyond its end.
func limb(n api.Natural, i int) int {
	if i < len(n) {
		return n[i]
	}
	return 0
}

// addTimes adds factor times b, where the factor is greater than -base and less than base, to the limbs of a, which are at least as many, and returns what does not fit into them.
func addTimes(a, b api.Natural, factor int) int {
	carry := 0
	for i := range len(a) {
		carry += a[i] + factor*limb(b, i)
		a[i] = carry & mask
		carry >>= width
	}
	return carry
}

// scale returns factor times n, plus carry, as a new number; both are less than base.
func scale(n api.Natural, factor, carry int) api.Natural {
	product := make(api.Natural, 0, len(n)+1)
	for i := range len(n) {
		carry += factor * n[i]
		product = append(product, carry&mask)
		carry >>= width
	}
	return trim(append(product, carry))
}

// shrink divides the limbs of n by divisor, which is less than base, and returns the remainder.
func shrink(n api.Natural, divisor int) int {
	remainder := 0
	for i := range slices.Backward(n) {
		remainder = remainder<<width + n[i]
		n[i] = remainder / divisor
		remainder %= divisor
	}
	return remainder
}
