package digit_test

import (
	"fmt"
	"math"
	"math/big"
	"math/rand"
	"strings"
	"testing"

	"bursar/api"
	"bursar/digit"
)

// tens is 10 to the power of n, of whole numbers of 64 bits (n at most 19).
func tens(n int) uint64 {
	x := uint64(1)
	for range n {
		x *= 10
	}
	return x
}

// edges are numbers beside those at which the count of digits, or of bits, changes.
func edges() []uint64 {
	l := []uint64{0, math.MaxUint64, math.MaxUint64 - 1}
	for n := range 20 {
		l = append(l, tens(n)-1, tens(n), tens(n)+1)
	}
	for n := range 64 {
		l = append(l, 1<<n-1, 1<<n, 1<<n+1)
	}
	return l
}

// mixed is edges, and numbers of all sizes, the same ones in each run.
func mixed() []uint64 {
	r, l := rand.New(rand.NewSource(1)), edges()
	for range 500 {
		l = append(l, r.Uint64()>>r.Intn(64))
	}
	return l
}

// places are a text, and what it is with one octet changed, put in or left out, at each place.
func places(s string, octets []byte, use func(string)) {
	use(s)
	for i := range len(s) + 1 {
		for _, c := range octets {
			use(s[:i] + string([]byte{c}) + s[i:])
			if i < len(s) {
				use(s[:i] + string([]byte{c}) + s[i+1:])
			}
		}
		if i < len(s) {
			use(s[:i] + s[i+1:])
		}
	}
}

// every octet that there is.
func everyOctet() []byte {
	l := make([]byte, 256)
	for i := range l {
		l[i] = byte(i)
	}
	return l
}

// isDigits tells it in another way than the program.
func isDigits(s string) bool { return strings.Trim(s, "0123456789") == "" }

// doubles is what each digit counts where it is doubled, reckoned by hand.
var doubles = [10]int{0, 2, 4, 6, 8, 1, 3, 5, 7, 9}

// isSound tells it by the chapter's own words, from the last digit on.
func isSound(s string) bool {
	if len(s) < 2 || !isDigits(s) {
		return false
	}
	sum, second := 0, false
	for i := len(s) - 1; i >= 0; i-- {
		n := int(s[i]) - '0'
		if second {
			n = doubles[n]
		}
		sum, second = sum+n, !second
	}
	return sum%10 == 0
}

// allTexts are all texts of some of the octets that have up to most of them.
func allTexts(octets string, most int, use func(string)) {
	use("")
	if most == 0 {
		return
	}
	allTexts(octets, most-1, func(s string) {
		if len(s) == most-1 {
			for i := range octets {
				use(s + octets[i:i+1])
			}
		}
		if s != "" {
			use(s)
		}
	})
}

func checkPut(t *testing.T, n uint64, width int) {
	t.Helper()
	want, e := "", api.OK
	switch digits := fmt.Sprint(n); {
	case width < 1 || width > 19:
		e = api.ErrArg
	case len(digits) > width:
		e = api.ErrOver
	default:
		want = strings.Repeat("0", width-len(digits)) + digits
	}
	if got, f := digit.Put(n, width); got != want || f != e {
		t.Errorf("Put(%d, %d): %q, %d; want %q, %d", n, width, got, f, want, e)
	}
}

func checkGet(t *testing.T, s string) {
	t.Helper()
	want, e := uint64(0), api.OK
	switch {
	case len(s) < 1 || len(s) > 19:
		e = api.ErrArg
	case !isDigits(s):
		e = api.ErrForm
	default:
		x, _ := new(big.Int).SetString(s, 10)
		want = x.Uint64()
	}
	if got, f := digit.Get(s); got != want || f != e {
		t.Errorf("Get(%.40q): %d, %d; want %d, %d", s, got, f, want, e)
	}
}

func checkSound(t *testing.T, s string) {
	t.Helper()
	if got := digit.Sound(s); got != isSound(s) {
		t.Errorf("Sound(%.40q): %v", s, got)
	}
}

func checkSign(t *testing.T, s string) {
	t.Helper()
	got, e := digit.Sign(s)
	if s == "" || !isDigits(s) {
		if got != "" || e != api.ErrForm {
			t.Errorf("Sign(%.40q): %.40q, %d; want ErrForm", s, got, e)
		}
		return
	}
	if e != api.OK || len(got) != len(s)+1 || !strings.HasPrefix(got, s) || !isSound(got) {
		t.Errorf("Sign(%.40q): %.40q, %d", s, got, e)
	}
}

// P2.1

func TestPutAsTheDocumentSays(t *testing.T) {
	for _, c := range []struct {
		n     uint64
		width int
		want  string
		e     api.Errno
	}{
		{42, 6, "000042", api.OK},
		{42, 2, "42", api.OK},
		{42, 1, "", api.ErrOver},
		{0, 1, "0", api.OK},
		{9, 1, "9", api.OK},
		{10, 1, "", api.ErrOver},
		{0, 19, "0000000000000000000", api.OK},
		{9999999999999999999, 19, "9999999999999999999", api.OK},
		{9999999999999999999, 18, "", api.ErrOver},
		{10000000000000000000, 19, "", api.ErrOver},
		{math.MaxUint64, 19, "", api.ErrOver},
		{math.MaxUint64, 1, "", api.ErrOver},
		{0, 0, "", api.ErrArg},
		{0, -1, "", api.ErrArg},
		{0, 20, "", api.ErrArg},
		{math.MaxUint64, 20, "", api.ErrArg},
		{math.MaxUint64, 0, "", api.ErrArg}, // not ErrOver: the width is told first
		{1, math.MaxInt, "", api.ErrArg},
		{1, math.MinInt, "", api.ErrArg},
	} {
		if got, e := digit.Put(c.n, c.width); got != c.want || e != c.e {
			t.Errorf("Put(%d, %d): %q, %d; want %q, %d", c.n, c.width, got, e, c.want, c.e)
		}
	}
}

func TestPutInEachWidth(t *testing.T) {
	widths := []int{math.MinInt, math.MinInt32, -20, -19, math.MaxInt32, 1 << 32, 1<<32 + 1, math.MaxInt}
	for width := -2; width <= 22; width++ {
		widths = append(widths, width)
	}
	for _, n := range mixed() {
		for _, width := range widths {
			checkPut(t, n, width)
		}
	}
}

func TestPutOfTheGreatestOfEachWidth(t *testing.T) {
	for width := 1; width <= api.MaxDigits; width++ {
		if got, e := digit.Put(tens(width)-1, width); got != strings.Repeat("9", width) || e != api.OK {
			t.Errorf("Put of the greatest in %d: %q, %d", width, got, e)
		}
		if got, e := digit.Put(tens(width), width); got != "" || e != api.ErrOver {
			t.Errorf("Put of one more in %d: %q, %d", width, got, e)
		}
	}
}

func TestGetAsTheDocumentSays(t *testing.T) {
	for _, c := range []struct {
		s    string
		want uint64
		e    api.Errno
	}{
		{"000042", 42, api.OK},
		{"42", 42, api.OK},
		{"0", 0, api.OK},
		{"9", 9, api.OK},
		{"0000000000000000000", 0, api.OK},
		{"0000000000000000001", 1, api.OK},
		{"9999999999999999999", 9999999999999999999, api.OK},
		{"9223372036854775808", 1 << 63, api.OK},
		{"", 0, api.ErrArg},
		{"00000000000000000000", 0, api.ErrArg},
		{"00000000000000000001", 0, api.ErrArg},
		{"18446744073709551615", 0, api.ErrArg},
		{"x0000000000000000000", 0, api.ErrArg}, // not ErrForm: how many there are is told first
		{"x000000000000000000", 0, api.ErrForm},
		{"000000000000000000x", 0, api.ErrForm},
		{"1a", 0, api.ErrForm},
		{"a1", 0, api.ErrForm},
		{"+1", 0, api.ErrForm},
		{"-1", 0, api.ErrForm},
		{"-0", 0, api.ErrForm},
		{" 1", 0, api.ErrForm},
		{"1 ", 0, api.ErrForm},
		{"1\n", 0, api.ErrForm},
		{"\x00", 0, api.ErrForm},
		{"1_0", 0, api.ErrForm},
		{"0x1", 0, api.ErrForm},
		{"1.0", 0, api.ErrForm},
		{"1e2", 0, api.ErrForm},
		{"/", 0, api.ErrForm},
		{":", 0, api.ErrForm},
		{"\xb1", 0, api.ErrForm},
		{"\xff\xfe", 0, api.ErrForm},
		{"１", 0, api.ErrForm},                   // a digit of another alphabet: three octets
		{strings.Repeat("１", 7), 0, api.ErrArg}, // 7 runes, but 21 octets
		{strings.Repeat("9", 1<<20), 0, api.ErrArg},
	} {
		if got, e := digit.Get(c.s); got != c.want || e != c.e {
			t.Errorf("Get(%.40q): %d, %d; want %d, %d", c.s, got, e, c.want, c.e)
		}
	}
}

func TestGetOfTextsThatWereChanged(t *testing.T) {
	for _, s := range []string{"0", "7", "42", "000042", "123456789012345678", "9999999999999999999", "10000000000000000000"} {
		places(s, everyOctet(), func(s string) { checkGet(t, s) })
	}
}

func TestGetOfAllShortTexts(t *testing.T) {
	allTexts("0189/:-a", 6, func(s string) { checkGet(t, s) })
}

// P2.2

func TestAll(t *testing.T) {
	for _, c := range []struct {
		s    string
		want bool
	}{
		{"", true}, {"0", true}, {"9", true}, {"0123456789", true}, {strings.Repeat("5", 1<<20), true},
		{"/", false}, {":", false}, {" ", false}, {"\x00", false}, {"01234x56789", false}, {"-1", false}, {"1.0", false},
		{"a0", false}, {"0a", false}, {"\xff", false}, {"0\xb0", false}, {"１", false}, {"٣", false},
		{strings.Repeat("5", 1<<20) + "x", false}, {"x" + strings.Repeat("5", 1<<20), false},
	} {
		if got := digit.All(c.s); got != c.want {
			t.Errorf("All(%.40q): %v", c.s, got)
		}
	}
	for _, s := range []string{"", "1", "0123456789", strings.Repeat("7", 40)} {
		places(s, everyOctet(), func(s string) {
			if got := digit.All(s); got != isDigits(s) {
				t.Errorf("All(%q): %v", s, got)
			}
		})
	}
}

func TestSoundAsTheDocumentSays(t *testing.T) {
	for _, c := range []struct {
		s    string
		want bool
	}{
		{"79927398713", true}, {"79927398710", false}, {"4111111111111111", true}, {"4012888888881881", true}, {"4111111111111112", false},
		{"378282246310005", true}, {"0000000000000000", true},
		{"00", true}, {"18", true}, {"26", true}, {"34", true}, {"42", true}, {"59", true}, {"67", true}, {"75", true}, {"83", true}, {"91", true},
		{"81", false}, {"01", false}, {"10", false}, {"99", false}, {"000", true}, {"018", true}, {"180", false},
		{"", false}, {"0", false}, {"5", false}, // too few, though the sum of 0 would be one
		{"0a", false}, {"a0", false}, {"79927398713 ", false}, {" 79927398713", false}, {"7992739871x", false}, {"x9927398713", false},
		{"4111-1111-1111-1111", false}, {"4111 1111 1111 1111", false}, {"00\x00", false}, {"::", false}, {"//", false}, {"１１", false},
	} {
		if got := digit.Sound(c.s); got != c.want {
			t.Errorf("Sound(%q): %v", c.s, got)
		}
	}
}

func TestSignAsTheDocumentSays(t *testing.T) {
	for _, c := range []struct {
		s, want string
		e       api.Errno
	}{
		{"7992739871", "79927398713", api.OK},
		{"411111111111111", "4111111111111111", api.OK},
		{"401288888888188", "4012888888881881", api.OK},
		{"37828224631000", "378282246310005", api.OK},
		{"0", "00", api.OK}, {"1", "18", api.OK}, {"2", "26", api.OK}, {"3", "34", api.OK}, {"4", "42", api.OK},
		{"5", "59", api.OK}, {"6", "67", api.OK}, {"7", "75", api.OK}, {"8", "83", api.OK}, {"9", "91", api.OK},
		{"00", "000", api.OK}, {"01", "018", api.OK}, {"10", "109", api.OK}, {"18", "182", api.OK},
		{"000000000000000", "0000000000000000", api.OK},
		{"", "", api.ErrForm}, {"x", "", api.ErrForm}, {"1x", "", api.ErrForm}, {"x1", "", api.ErrForm}, {"1 ", "", api.ErrForm},
		{"-1", "", api.ErrForm}, {"/", "", api.ErrForm}, {":", "", api.ErrForm}, {"\x00", "", api.ErrForm}, {"\xff", "", api.ErrForm}, {"１", "", api.ErrForm},
	} {
		if got, e := digit.Sign(c.s); got != c.want || e != c.e {
			t.Errorf("Sign(%q): %q, %d; want %q, %d", c.s, got, e, c.want, c.e)
		}
	}
}

func TestSoundAndSignOfAllShortTexts(t *testing.T) {
	check := func(s string) {
		checkSound(t, s)
		checkSign(t, s)
	}
	allTexts("0123456789", 5, check)
	allTexts("059/:x", 5, check)
}

func TestSoundAndSignOfTextsThatWereChanged(t *testing.T) {
	for _, s := range []string{"00", "79927398713", "4111111111111111", "1234567812345670"} {
		places(s, everyOctet(), func(s string) {
			checkSound(t, s)
			checkSign(t, s)
		})
	}
}

// digits of a length, the same ones in each run of a source.
func digitsOf(r *rand.Rand, length int) string {
	b := make([]byte, length)
	for i := range b {
		b[i] = '0' + byte(r.Intn(10))
	}
	return string(b)
}

func TestSoundAndSignOfEachLength(t *testing.T) {
	r := rand.New(rand.NewSource(2))
	for length := range 200 {
		for range 20 {
			s := digitsOf(r, length)
			checkSound(t, s)
			checkSign(t, s)
		}
	}
	// Neither has a most, unlike Get: 19 and 20 are lengths like others.
	for _, length := range []int{19, 20, 1<<16 - 1, 1 << 16, 1 << 20} {
		checkSign(t, strings.Repeat("9", length))
		checkSign(t, digitsOf(r, length))
	}
}

// P2.3

func TestWhatIsPutIsGot(t *testing.T) {
	for _, n := range mixed() {
		for width := 1; width <= api.MaxDigits; width++ {
			s, e := digit.Put(n, width)
			if e != api.OK {
				continue
			}
			if got, f := digit.Get(s); got != n || f != api.OK || len(s) != width || !digit.All(s) {
				t.Errorf("Put(%d, %d): %q, of which Get: %d, %d", n, width, s, got, f)
			}
		}
	}
}

func TestWhatIsGotIsPut(t *testing.T) {
	r := rand.New(rand.NewSource(3))
	for length := 1; length <= api.MaxDigits; length++ {
		for range 100 {
			s := digitsOf(r, length)
			n, _ := digit.Get(s)
			if got, e := digit.Put(n, length); got != s || e != api.OK {
				t.Errorf("Put(Get(%q), %d): %q, %d", s, length, got, e)
			}
		}
	}
}

// soundOnes are digits that Sign made sound: all short ones, and some of each length.
func soundOnes(use func(string)) {
	sign := func(s string) {
		if signed, e := digit.Sign(s); e == api.OK {
			use(signed)
		}
	}
	allTexts("0123456789", 4, sign)
	r := rand.New(rand.NewSource(4))
	for length := 1; length <= 40; length++ {
		for range 20 {
			sign(digitsOf(r, length))
		}
	}
}

func TestWhatIsSignedIsSound(t *testing.T) {
	soundOnes(func(s string) {
		if !digit.Sound(s) {
			t.Errorf("Sound(%q): false", s)
		}
	})
}

func TestOneDigitThatIsAnotherOne(t *testing.T) {
	soundOnes(func(s string) {
		for i := range s {
			for c := byte('0'); c <= '9'; c++ {
				other := s[:i] + string([]byte{c}) + s[i+1:]
				if digit.Sound(other) != (other == s) {
					t.Errorf("Sound(%q), with %q sound: %v", other, s, other != s)
				}
			}
		}
	})
}

func TestTwoNeighboursThatAreExchanged(t *testing.T) {
	soundOnes(func(s string) {
		for i := range len(s) - 1 {
			other := s[:i] + s[i+1:i+2] + s[i:i+1] + s[i+2:]
			pair := s[i : i+2]
			want := other == s || pair == "09" || pair == "90"
			if digit.Sound(other) != want {
				t.Errorf("Sound(%q), with %q sound: %v", other, s, !want)
			}
		}
	})
}
