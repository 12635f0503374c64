package natural_test

import (
	"math/big"
	"slices"
	"strings"
	"testing"

	"routescope/api"
	"routescope/natural"
)

// P2.4

func TestText(t *testing.T) {
	for _, n := range numbers() {
		if got := natural.Text(n); got != toBig(n).String() {
			t.Errorf("%v has the text %q", n, got)
		}
	}
	for zeros := range 60 {
		for _, s := range []string{"1", "9", "10", "123456789", "999999999", "1000000001", "1073741823", "1073741824"} {
			s += strings.Repeat("0", zeros)
			b, _ := new(big.Int).SetString(s, 10)
			if got := natural.Text(fromBig(b)); got != s {
				t.Errorf("%s has the text %q", s, got)
			}
		}
	}
}

func TestParse(t *testing.T) {
	for _, n := range numbers() {
		if got, e := natural.Parse(toBig(n).String()); e != api.OK || !slices.Equal(got, n) {
			t.Errorf("%v is read as %v, %d", n, got, e)
		}
	}
	for digits := 1; digits <= 2311; digits++ {
		for _, s := range []string{strings.Repeat("9", digits), "1" + strings.Repeat("0", digits-1), strings.Repeat("1234567890", digits/10+1)[:digits]} {
			b, _ := new(big.Int).SetString(s, 10)
			if got, e := natural.Parse(s); !same(got, e, b) {
				t.Errorf("%s is read as %v, %d", s, got, e)
			}
		}
	}
}

func TestParseForm(t *testing.T) {
	for _, s := range []string{"", " ", "00", "01", "007", "0000000000", "-0", "-1", "+1", "1-", " 1", "1 ", "1\n", "\x001", "1_000", "1,000", "1.0", "1e5", "0x10", "a", "1a", "a1", "1/", "1:", "/", ":", "12345678x9", "123456789x", "x123456789", "١", "1١", "１", "\xff", "1\xff"} {
		if got, e := natural.Parse(s); e != api.ErrForm || len(got) != 0 {
			t.Errorf("%q is read as %v, %d", s, got, e)
		}
	}
	// The form is looked at first, however long the text is.
	long := strings.Repeat("9", 3000)
	for _, s := range []string{"0" + long, long + "x", long + " ", "-" + long, long[:1500] + "." + long} {
		if got, e := natural.Parse(s); e != api.ErrForm || len(got) != 0 {
			t.Errorf("%.5q of %d bytes is read as %v, %d", s, len(s), got, e)
		}
	}
}

func TestParseLimit(t *testing.T) {
	greatest := new(big.Int).Lsh(big.NewInt(1), 30*256)
	tooGreat := greatest.String()
	greatest.Sub(greatest, big.NewInt(1))
	if got, e := natural.Parse(greatest.String()); e != api.OK || !slices.Equal(got, great(256)) {
		t.Errorf("the greatest number is read as %v, %d", got, e)
	}
	for _, s := range []string{tooGreat, strings.Repeat("9", 2320), "1" + strings.Repeat("0", 2399), strings.Repeat("9", 2400), strings.Repeat("9", 2401), strings.Repeat("1", 100000)} {
		if got, e := natural.Parse(s); e != api.ErrLimit || len(got) != 0 {
			t.Errorf("%.5q of %d bytes is read as %v, %d", s, len(s), got, e)
		}
	}
}
