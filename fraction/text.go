package fraction

import (
	"strings"

	"routescope/api"
	"routescope/natural"
)

// Text returns the reduced fraction as text, such as -1/2 or 3.
func Text(f api.Fraction) string {
	if !Valid(f) {
		return ""
	}
	f = Reduce(f)
	s := natural.Text(f.Num)
	if f.Negative {
		s = "-" + s
	}
	if !isOne(f.Den) {
		s += "/" + natural.Text(f.Den)
	}
	return s
}

// Parse returns the reduced fraction with the text s, or api.ErrForm or api.ErrLimit.
func Parse(s string) (api.Fraction, api.Errno) {
	digits, negative := strings.CutPrefix(s, "-")
	top, bottom, slash := strings.Cut(digits, "/")
	if s == "-0" || slash && (bottom == "0" || bottom == "1") {
		return api.Fraction{}, api.ErrForm
	}
	if !slash {
		bottom = "1"
	}
	num, e := natural.Parse(top)
	den, g := natural.Parse(bottom)
	switch {
	case e == api.ErrForm || g == api.ErrForm:
		return api.Fraction{}, api.ErrForm
	case e != api.OK || g != api.OK:
		return api.Fraction{}, api.ErrLimit
	case !isOne(natural.Gcd(num, den)):
		return api.Fraction{}, api.ErrForm
	}
	f := api.Fraction{Negative: negative, Num: num, Den: den}
	if !Valid(f) {
		return api.Fraction{}, api.ErrLimit
	}
	return f, api.OK
}

// isOne reports whether n is 1.
func isOne(n api.Natural) bool { return natural.Compare(n, api.Natural{1}) == 0 }
