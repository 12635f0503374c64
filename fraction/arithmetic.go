package fraction

import (
	"routescope/api"
	"routescope/natural"
)

// Compare returns -1 if a is less than b, 1 if it is greater, and 0 if they are equal; there is no error.
func Compare(a, b api.Fraction) (int, api.Errno) {
	left, right := crossed(a, b)
	switch {
	case a.Negative && b.Negative:
		return natural.Compare(right, left), api.OK
	case a.Negative:
		return -1, api.OK
	case b.Negative:
		return 1, api.OK
	}
	return natural.Compare(left, right), api.OK
}

// Add returns the sum of a and b, or api.ErrLimit.
func Add(a, b api.Fraction) (api.Fraction, api.Errno) {
	if !Valid(a) || !Valid(b) {
		return api.Fraction{}, api.ErrForm
	}
	left, right := crossed(a, b)
	den, _ := natural.Mul(a.Den, b.Den)
	if a.Negative == b.Negative {
		num, _ := natural.Add(left, right)
		return lowest(a.Negative, num, den)
	}
	negative := a.Negative
	if natural.Compare(left, right) < 0 {
		left, right, negative = right, left, b.Negative
	}
	num, _ := natural.Sub(left, right)
	return lowest(negative, num, den)
}

// Sub returns a minus b, or api.ErrLimit.
func Sub(a, b api.Fraction) (api.Fraction, api.Errno) {
	if !Valid(b) {
		return api.Fraction{}, api.ErrForm
	}
	b.Negative = !b.Negative && len(b.Num) > 0
	return Add(a, b)
}

// Mul returns the product of a and b, or api.ErrLimit.
func Mul(a, b api.Fraction) (api.Fraction, api.Errno) {
	if !Valid(a) || !Valid(b) {
		return api.Fraction{}, api.ErrForm
	}
	num, _ := natural.Mul(a.Num, b.Num)
	den, _ := natural.Mul(a.Den, b.Den)
	return lowest(a.Negative != b.Negative, num, den)
}

// Div returns the quotient of a and b, or api.ErrZero or api.ErrLimit.
func Div(a, b api.Fraction) (api.Fraction, api.Errno) {
	if !Valid(a) || !Valid(b) {
		return api.Fraction{}, api.ErrForm
	}
	if len(b.Num) == 0 {
		return api.Fraction{}, api.ErrZero
	}
	num, den := crossed(a, b)
	return lowest(a.Negative != b.Negative, num, den)
}

// crossed returns the cross products of a and b: the numerators, without their signs, that they have over the product of both denominators.
func crossed(a, b api.Fraction) (api.Natural, api.Natural) {
	left, _ := natural.Mul(a.Num, b.Den)
	right, _ := natural.Mul(b.Num, a.Den)
	return left, right
}
