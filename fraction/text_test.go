package fraction_test

import (
	"math/big"
	"strings"
	"testing"

	"routescope/api"
	"routescope/fraction"
)

// P3.4

func TestText(t *testing.T) {
	for _, f := range fractions() {
		if got := fraction.Text(f); got != toRat(f).RatString() {
			t.Errorf("%v has the text %q", f, got)
		}
	}
	for _, x := range []struct {
		num, den int
		text     string
	}{{-6, -4, "3/2"}, {6, -3, "-2"}, {0, -5, "0"}, {-1, 2, "-1/2"}, {10, 10, "1"}} {
		if f, _ := fraction.From(x.num, x.den); fraction.Text(f) != x.text {
			t.Errorf("%d / %d has the text %q", x.num, x.den, fraction.Text(f))
		}
	}
}

// Texts are equal exactly for equal values.
func TestTextEqual(t *testing.T) {
	for _, pair := range pairs() {
		f, g := pair[0], pair[1]
		if (fraction.Text(f) == fraction.Text(g)) != (toRat(f).Cmp(toRat(g)) == 0) {
			t.Errorf("%v and %v have the texts %q and %q", f, g, fraction.Text(f), fraction.Text(g))
		}
	}
}

func TestParse(t *testing.T) {
	for _, f := range fractions() {
		if got, e := fraction.Parse(toRat(f).RatString()); !same(got, e, toRat(f)) {
			t.Errorf("%v comes back as %v, %d", f, got, e)
		}
	}
	for num := -30; num <= 30; num++ {
		for den := 1; den <= 30; den++ {
			r := big.NewRat(int64(num), int64(den))
			if got, e := fraction.Parse(r.RatString()); !same(got, e, r) {
				t.Errorf("%s is read as %v, %d", r.RatString(), got, e)
			}
		}
	}
}

func TestParseForm(t *testing.T) {
	for _, s := range []string{
		"", "-", "/", "-/", "--1", "---1", "+1", "-+1", "+-1", " 1", "1 ", "- 1", "1\n", "1\x00", "1.5", "1e3", "0x1", "1_0", "a", "1a", "1-", "1/a", "a/2", "١", "\xff", "−1",
		"00", "01", "-01", "-00", "00/2", "01/2", "1/02", "-1/02", "1/00", "1/01",
		"1/", "-1/", "/2", "-/2", "1//2", "1/2/", "1/2/3", "/1/2", "1 /2", "1/ 2", "1/-2", "-1/-2", "1/+2", "1/2 ",
		"-0", "0/0", "-0/0", "0/1", "-0/1", "1/0", "-1/0", "1/1", "-1/1", "2/1", "17/1",
		"0/2", "-0/2", "0/5", "2/2", "2/4", "-2/4", "6/3", "-6/3", "15/35", "1073741824/2147483648",
	} {
		if got, e := fraction.Parse(s); e != api.ErrForm || !nothing(got) {
			t.Errorf("%q is read as %v, %d", s, got, e)
		}
	}
}

// power returns the text of the power of the base with so many limbs, plus an offset.
func power(limbs int, offset int64) string {
	b := new(big.Int).Lsh(big.NewInt(1), uint(30*(limbs-1)))
	return b.Add(b, big.NewInt(offset)).String()
}

// Parts may have 64 limbs, and none more.
func TestParseLimit(t *testing.T) {
	for _, s := range []string{power(65, -1), "-" + power(65, -1), "1/" + power(65, -1), "-1/" + power(65, -1), power(65, -1) + "/" + power(65, -2), "0", "1"} {
		r, _ := new(big.Rat).SetString(s)
		if got, e := fraction.Parse(s); e != api.OK || !same(got, e, r) {
			t.Errorf("%.20s of %d bytes is read as %v, %d", s, len(s), got, e)
		}
	}
	many := strings.Repeat("4", 2401) // more digits than api.MaxDigits
	for _, s := range []string{
		power(65, 0), "-" + power(65, 0), "1/" + power(65, 0), "-1/" + power(65, 0), power(65, 0) + "/" + power(65, 1), power(65, 0) + "/7", "7/" + power(65, 0),
		power(256, 0), "1/" + power(256, 0), power(257, -1) + "/" + power(257, -2),
		power(257, 0), "1/" + power(257, 0), many, "-" + many, "1/" + many, many + "/3",
	} {
		if got, e := fraction.Parse(s); e != api.ErrLimit || !nothing(got) {
			t.Errorf("%.20s of %d bytes is read as %v, %d", s, len(s), got, e)
		}
	}
}

// Of several errors the first one counts: the form of the text, then parts that are too great for layer 2, then common divisors, then parts of more than 64 limbs.
func TestParseOrder(t *testing.T) {
	many := strings.Repeat("4", 2401)
	for _, s := range []string{many + "x", many + "/", many + "/0", many + "/1", many + "/02", many + "/-2", many + "/" + many + "/", "0" + many, "x/" + many, "/" + many, "01/" + many, "--1/" + many, "--" + many, "1/0" + many, power(257, 0) + "/1", "a/" + power(257, 0)} {
		if got, e := fraction.Parse(s); e != api.ErrForm || !nothing(got) {
			t.Errorf("form first: %.20s of %d bytes is read as %v, %d", s, len(s), got, e)
		}
	}
	for _, s := range []string{"2/" + many, many + "/2", "0/" + many, "-0/" + many, many + "/" + many, power(257, 0) + "/2", "2/" + power(257, 0), power(257, 0) + "/" + power(257, 0), "-0/" + power(257, 0)} {
		if got, e := fraction.Parse(s); e != api.ErrLimit || !nothing(got) {
			t.Errorf("limits of layer 2 second: %.20s of %d bytes is read as %v, %d", s, len(s), got, e)
		}
	}
	for _, s := range []string{power(65, 0) + "/2", "2/" + power(65, 0), "0/" + power(65, 0), "-0/" + power(65, 1), power(256, 0) + "/" + power(256, 0), power(257, -1) + "/3"} {
		if got, e := fraction.Parse(s); e != api.ErrForm || !nothing(got) {
			t.Errorf("divisors third: %.20s of %d bytes is read as %v, %d", s, len(s), got, e)
		}
	}
}
