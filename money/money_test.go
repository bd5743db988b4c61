package money_test

import (
	"math"
	"math/big"
	"math/rand"
	"slices"
	"strings"
	"testing"

	"bursar/api"
	"bursar/money"
)

const (
	most  = math.MaxInt64
	least = math.MinInt64
)

// edges are amounts at which arithmetic of 64 bits may go around, and ordinary ones.
var edges = []int64{
	least, least + 1, least + 99, least/2 - 1, least / 2, least/2 + 1, -1 << 32, -3037000500, -3037000499,
	-1000, -105, -101, -100, -99, -10, -9, -7, -3, -2, -1, 0, 1, 2, 3, 7, 9, 10, 99, 100, 101, 105, 1000,
	3037000499, 3037000500, 1 << 31, 1 << 32, most/2 - 1, most / 2, most/2 + 1, most - 99, most - 1, most,
}

// mixed is edges, and amounts of all sizes, the same ones in each run.
func mixed() []int64 {
	r := rand.New(rand.NewSource(1))
	l := slices.Clone(edges)
	for range 200 {
		l = append(l, int64(r.Uint64())>>r.Intn(64))
	}
	return l
}

// told is what a call must answer whose result is x: x itself, or ErrOver and 0.
func told(x *big.Int) (int64, api.Errno) {
	if !x.IsInt64() {
		return 0, api.ErrOver
	}
	return x.Int64(), api.OK
}

// sumOf is the sum of whole numbers without end.
func sumOf(l []int64) *big.Int {
	sum := new(big.Int)
	for _, a := range l {
		sum.Add(sum, big.NewInt(a))
	}
	return sum
}

// P1.1

func TestAddSubTimesAgainstNumbersWithoutEnd(t *testing.T) {
	l := mixed()
	for _, a := range l {
		for _, b := range l {
			x, y := big.NewInt(a), big.NewInt(b)
			want, e := told(new(big.Int).Add(x, y))
			if got, f := money.Add(a, b); got != want || f != e {
				t.Errorf("Add(%d, %d): %d, %d; want %d, %d", a, b, got, f, want, e)
			}
			want, e = told(new(big.Int).Sub(x, y))
			if got, f := money.Sub(a, b); got != want || f != e {
				t.Errorf("Sub(%d, %d): %d, %d; want %d, %d", a, b, got, f, want, e)
			}
			n := int(b)
			want, e = told(new(big.Int).Mul(x, big.NewInt(int64(n))))
			if got, f := money.Times(a, n); got != want || f != e {
				t.Errorf("Times(%d, %d): %d, %d; want %d, %d", a, n, got, f, want, e)
			}
		}
	}
}

func TestAddSubTimesAtTheEdges(t *testing.T) {
	type call struct {
		name string
		got  int64
		e    api.Errno
		want int64
		err  api.Errno
	}
	add := func(a, b, want int64, err api.Errno) call {
		got, e := money.Add(a, b)
		return call{"Add", got, e, want, err}
	}
	sub := func(a, b, want int64, err api.Errno) call {
		got, e := money.Sub(a, b)
		return call{"Sub", got, e, want, err}
	}
	times := func(a int64, n int, want int64, err api.Errno) call {
		got, e := money.Times(a, n)
		return call{"Times", got, e, want, err}
	}
	for i, c := range []call{
		add(2, 3, 5, api.OK),
		add(most, 1, 0, api.ErrOver),
		add(most, 0, most, api.OK),
		add(most-1, 1, most, api.OK),
		add(least, -1, 0, api.ErrOver),
		add(least+1, -1, least, api.OK),
		add(most, least, -1, api.OK),
		add(least, least, 0, api.ErrOver),
		sub(5, 8, -3, api.OK),
		sub(least, 1, 0, api.ErrOver),
		sub(0, least, 0, api.ErrOver),
		sub(-1, least, most, api.OK),
		sub(least, least, 0, api.OK),
		sub(most, -1, 0, api.ErrOver),
		times(7, -3, -21, api.OK),
		times(least, -1, 0, api.ErrOver),
		times(-1, math.MinInt, 0, api.ErrOver),
		times(least, 1, least, api.OK),
		times(least, 0, 0, api.OK),
		times(1<<62, -2, least, api.OK),
		times(1<<62, 2, 0, api.ErrOver),
		times(1<<32, 1<<32, 0, api.ErrOver),
		times(-1<<32, 1<<31, least, api.OK),
		times(3074457345618258603, -3, 0, api.ErrOver), // one below the least
		times(-3074457345618258602, 3, -9223372036854775806, api.OK),
	} {
		if c.got != c.want || c.e != c.err {
			t.Errorf("%d, %s: %d, %d; want %d, %d", i, c.name, c.got, c.e, c.want, c.err)
		}
	}
}

func TestSum(t *testing.T) {
	for _, c := range []struct {
		l    []int64
		want int64
		e    api.Errno
	}{
		{nil, 0, api.OK},
		{[]int64{}, 0, api.OK},
		{[]int64{least}, least, api.OK},
		{[]int64{1, 2, 3}, 6, api.OK},
		{[]int64{most, 1, -1}, most, api.OK},
		{[]int64{least, -1, 1}, least, api.OK},
		{[]int64{most, most, least, least, 2}, 0, api.OK},
		{[]int64{most, 1}, 0, api.ErrOver},
		{[]int64{least, -1}, 0, api.ErrOver},
		{[]int64{most, most, 2}, 0, api.ErrOver},                                             // 2^64: around to 0
		{[]int64{least, least}, 0, api.ErrOver},                                              // -2^64: likewise
		{[]int64{most, most, most, most, 4}, 0, api.ErrOver},                                 // around twice
		{[]int64{least, least, least, least, most, most, most, most, 4}, 0, api.OK},          // and back
		{[]int64{most, most, -1, -most, -most, most, least, 0, 0, 1}, -1, api.OK},            // to and fro
		{[]int64{least, least, least, most, most, most, most, most, 0}, 0, api.ErrOver},      // too far back
		{[]int64{most, most, most, most, least, least, least, least, 4 + 1}, 1, api.OK},      // over, and back
		{[]int64{most, most, most, most, least, least, least, least, least}, 0, api.ErrOver}, // under
	} {
		kept := slices.Clone(c.l)
		if got, e := money.Sum(c.l...); got != c.want || e != c.e {
			t.Errorf("Sum(%v): %d, %d; want %d, %d", c.l, got, e, c.want, c.e)
		}
		if !slices.Equal(kept, c.l) {
			t.Errorf("Sum changed %v to %v", kept, c.l)
		}
	}
}

func TestSumAgainstNumbersWithoutEnd(t *testing.T) {
	r, all := rand.New(rand.NewSource(2)), mixed()
	for range 3000 {
		l := make([]int64, r.Intn(12))
		for i := range l {
			l[i] = all[r.Intn(len(all))]
		}
		want, e := told(sumOf(l))
		if got, f := money.Sum(l...); got != want || f != e {
			t.Errorf("Sum(%v): %d, %d; want %d, %d", l, got, f, want, e)
		}
	}
}

// P1.2

func TestShare(t *testing.T) {
	for _, c := range []struct {
		a    int64
		n    int
		want []int64
	}{
		{7, 3, []int64{3, 2, 2}},
		{8, 3, []int64{3, 3, 2}},
		{-7, 3, []int64{-3, -2, -2}},
		{-8, 3, []int64{-3, -3, -2}},
		{9, 3, []int64{3, 3, 3}},
		{1, 3, []int64{1, 0, 0}},
		{-1, 3, []int64{-1, 0, 0}},
		{0, 2, []int64{0, 0}},
		{most, 1, []int64{most}},
		{least, 1, []int64{least}},
		{least, 2, []int64{least / 2, least / 2}},
		{most, 2, []int64{most/2 + 1, most / 2}},
	} {
		if got, e := money.Share(c.a, c.n); e != api.OK || !slices.Equal(got, c.want) {
			t.Errorf("Share(%d, %d): %v, %d; want %v", c.a, c.n, got, e, c.want)
		}
	}
}

func TestShareAmongAllCounts(t *testing.T) {
	for n := 1; n <= api.MaxShares; n++ {
		for _, a := range edges {
			l, e := money.Share(a, n)
			if e != api.OK || len(l) != n {
				t.Fatalf("Share(%d, %d): %d shares, %d", a, n, len(l), e)
			}
			checkShares(t, a, l)
		}
	}
}

// checkShares tells what P1.2 says of shares of which there is at least one.
func checkShares(t *testing.T, a int64, l []int64) {
	t.Helper()
	if sumOf(l).Cmp(big.NewInt(a)) != 0 {
		t.Errorf("%d shares of %d come to %v", len(l), a, sumOf(l))
	}
	if slices.Max(l)-slices.Min(l) > 1 {
		t.Errorf("%d shares of %d: from %d to %d", len(l), a, slices.Min(l), slices.Max(l))
	}
	for i := 1; i < len(l); i++ {
		if big.NewInt(l[i-1]).CmpAbs(big.NewInt(l[i])) < 0 {
			t.Errorf("%d shares of %d: %d ahead of %d", len(l), a, l[i-1], l[i])
		}
	}
}

func TestShareAmongTooFewOrTooMany(t *testing.T) {
	for _, n := range []int{0, -1, -3, -api.MaxShares, api.MaxShares + 1, 1 << 20, math.MaxInt, math.MinInt} {
		for _, a := range []int64{0, 7, -7, least, most} {
			if l, e := money.Share(a, n); e != api.ErrArg || l != nil {
				t.Errorf("Share(%d, %d): %v, %d", a, n, l, e)
			}
		}
	}
}

// P1.3

func TestTextAndParse(t *testing.T) {
	for _, c := range []struct {
		a int64
		s string
	}{
		{0, "0.00"}, {1, "0.01"}, {5, "0.05"}, {9, "0.09"}, {10, "0.10"}, {99, "0.99"}, {100, "1.00"}, {105, "1.05"},
		{12345, "123.45"}, {100000, "1000.00"}, {-1, "-0.01"}, {-10, "-0.10"}, {-99, "-0.99"}, {-100, "-1.00"}, {-105, "-1.05"},
		{most, "92233720368547758.07"}, {least, "-92233720368547758.08"}, {least + 1, "-92233720368547758.07"},
	} {
		if s := money.Text(c.a); s != c.s {
			t.Errorf("Text(%d): %q; want %q", c.a, s, c.s)
		}
		if a, e := money.Parse(c.s); a != c.a || e != api.OK {
			t.Errorf("Parse(%q): %d, %d; want %d", c.s, a, e, c.a)
		}
	}
}

func TestParseOfNoText(t *testing.T) {
	for _, s := range []string{
		"", "-", ".", "-.", "0", "1", "105", "-105", "0.", "0.0", "1.0", "1.000", "1.0500", ".00", ".05", "-.05", "105.", ".105",
		"00.00", "01.00", "-01.00", "000.05", "-0.00", "--1.00", "+1.00", "-+1.00", "+0.00", "1.-5", "1.+5", "1-.00", "1.00-",
		"10.5.0", "1..00", "1.0.0", "..00", " 1.00", "1.00 ", "1 .00", "1.00\n", "1.00\x00", "1,00", "1:00",
		"1.0x", "x.00", "1x.00", "0x1.00", "1e2.00", "1_0.00", "1.0_", "1.0/", "1.0:", "/.00", ":.00", "a", "\xff.00", "１.00",
		"92233720368547758.08", "-92233720368547758.09", "92233720368547759.00", "184467440737095516.16", "184467440737095517.16",
		"-184467440737095516.16", "1844674407370955161.60", "99999999999999999999999999.99", "-99999999999999999999999999.99",
		strings.Repeat("9", 100000) + ".00", strings.Repeat("0", 100000) + "1.00", strings.Repeat("-", 1000) + "1.00",
	} {
		if a, e := money.Parse(s); e != api.ErrForm || a != 0 {
			t.Errorf("Parse(%.40q): %d, %d", s, a, e)
		}
	}
}

// isText tells by the text's own words whether s is some amount's.
func isText(s string) bool {
	body, below := strings.CutPrefix(s, "-")
	if len(body) < 4 || body[len(body)-3] != '.' {
		return false
	}
	digits := body[:len(body)-3] + body[len(body)-2:]
	if strings.Trim(digits, "0123456789") != "" || len(body) > 4 && body[0] == '0' {
		return false
	}
	x, _ := new(big.Int).SetString(digits, 10)
	if below {
		x.Neg(x)
	}
	return x.IsInt64() && !(below && x.Sign() == 0)
}

func TestParseOfAllShortOctets(t *testing.T) {
	const octets = "-.0159+x"
	count := 1
	for range 6 {
		count *= len(octets)
	}
	for length := 0; length <= 6; length++ {
		for i := 0; i < count; i++ {
			b, rest := make([]byte, length), i
			for j := range b {
				b[j] = octets[rest%len(octets)]
				rest /= len(octets)
			}
			if rest > 0 {
				break
			}
			checkParse(t, string(b))
		}
	}
}

func TestParseOfTextsThatWereChanged(t *testing.T) {
	for _, a := range edges {
		s := money.Text(a)
		for i := range s {
			for c := range 256 {
				checkParse(t, s[:i]+string([]byte{byte(c)})+s[i+1:])
				checkParse(t, s[:i]+string([]byte{byte(c)})+s[i:])
			}
			checkParse(t, s[:i]+s[i+1:])
			checkParse(t, s[:i])
		}
	}
}

// checkParse tells what P1.3 says of a text.
func checkParse(t *testing.T, s string) {
	t.Helper()
	a, e := money.Parse(s)
	if !isText(s) {
		if a != 0 || e != api.ErrForm {
			t.Errorf("Parse(%q): %d, %d; want ErrForm", s, a, e)
		}
		return
	}
	want, _ := new(big.Int).SetString(strings.Replace(s, ".", "", 1), 10)
	if e != api.OK || a != want.Int64() {
		t.Errorf("Parse(%q): %d, %d; want %v", s, a, e, want)
	}
}

// P1.4

func TestOrderPlaysNoPart(t *testing.T) {
	r, all := rand.New(rand.NewSource(3)), mixed()
	for _, a := range all {
		for _, b := range all {
			x, e := money.Add(a, b)
			y, f := money.Add(b, a)
			if x != y || e != f {
				t.Errorf("Add(%d, %d): %d, %d; the other way round %d, %d", a, b, x, e, y, f)
			}
		}
	}
	for range 1000 {
		l := make([]int64, 8)
		for i := range l {
			l[i] = all[r.Intn(len(all))]
		}
		x, e := money.Sum(l...)
		for range 5 {
			r.Shuffle(len(l), func(i, j int) { l[i], l[j] = l[j], l[i] })
			if y, f := money.Sum(l...); x != y || e != f {
				t.Errorf("Sum(%v): %d, %d; in another order %d, %d", l, y, f, x, e)
			}
		}
	}
}

func TestTextsAreParsedAsTheyWere(t *testing.T) {
	check := func(a int64) {
		s := money.Text(a)
		if b, e := money.Parse(s); b != a || e != api.OK {
			t.Errorf("Parse(%q): %d, %d; want %d", s, b, e, a)
		}
		if !isText(s) {
			t.Errorf("Text(%d): %q is none", a, s)
		}
	}
	for _, a := range mixed() {
		check(a)
	}
	for a := int64(-12000); a <= 12000; a++ {
		check(a)
	}
}

func TestSharesAreNewMemory(t *testing.T) {
	l, _ := money.Share(7, 3)
	l[0] = 100
	if again, _ := money.Share(7, 3); again[0] != 3 {
		t.Errorf("Share(7, 3) again: %v", again)
	}
}
