package spec_test

import (
	"fmt"
	"math"
	"math/rand"
	"regexp"
	"slices"
	"strconv"
	"strings"
	"testing"

	"bursar/api"
	"bursar/spec"
)

// chapter is the table as the chapter has it.
const chapter = `
| 2 | n..19 |
| 3 | n6 |
| 4 to 6 | n12 |
| 7 | n10 |
| 8 to 10 | n8 |
| 11, 12 | n6 |
| 13 to 18 | n4 |
| 19 to 24 | n3 |
| 25, 26 | n2 |
| 27 | n1 |
| 28 to 31 | an9 |
| 32, 33 | n..11 |
| 34 | an..28 |
| 35 | ans..37 |
| 36 | ans...104 |
| 37 | an12 |
| 38 | an6 |
| 39 | an2 |
| 40 | an3 |
| 41 | ans8 |
| 42 | ans15 |
| 43 | ans40 |
| 44 | ans..25 |
| 45 | ans..76 |
| 46 to 48 | ans...999 |
| 49 to 51 | an3 |
| 52 | b8 |
| 53 | n16 |
| 54 | an...120 |
| 55 to 63 | ans...999 |
| 64 | b8 |
| 66 | n1 |
| 67 | n2 |
| 68 to 70 | n3 |
| 71, 72 | n4 |
| 73 | n6 |
| 74 to 81 | n10 |
| 82 to 85 | n12 |
| 86 to 89 | n16 |
| 90 | n42 |
| 91 | an1 |
| 92 | an2 |
| 93 | an5 |
| 94 | an7 |
| 95 | an42 |
| 96 | b8 |
| 97 | an17 |
| 98 | ans25 |
| 99, 100 | n..11 |
| 101 | ans..17 |
| 102, 103 | ans..28 |
| 104 | ans...100 |
| 105 to 127 | ans...999 |
| 128 | b8 |
`

// kinds are the octets of each kind, as the chapter tells them.
var kinds = map[string]*regexp.Regexp{
	"n":   regexp.MustCompile(`^[0-9]*$`),
	"an":  regexp.MustCompile(`^[0-9A-Za-z ]*$`),
	"ans": regexp.MustCompile(`^[\x20-\x7e]*$`),
	"b":   regexp.MustCompile(`(?s)^.*$`),
}

var numbered = map[string]int{"n": 1, "an": 2, "ans": 3, "b": 4}

// none are numbers of no field.
var none = []int{1, 65, 0, -1, -2, -64, 129, 130, 191, 256, 258, 1 << 16, 1<<32 + 2, math.MaxInt, math.MinInt, math.MinInt + 2}

// told is a field of the chapter's table.
type told struct {
	kind      string
	vary, len int
}

var fields = table()

// table is the chapter's table, read.
func table() map[int]told {
	line := regexp.MustCompile(`\| (\d+)(?:( to |, )(\d+))? \| (n|an|ans|b)(\.*)(\d+) \|`)
	read := map[int]told{}
	for _, m := range line.FindAllStringSubmatch(chapter, -1) {
		from, _ := strconv.Atoi(m[1])
		to := from
		if m[2] != "" {
			to, _ = strconv.Atoi(m[3])
		}
		size, _ := strconv.Atoi(m[6])
		for n := from; n <= to; n++ {
			read[n] = told{m[4], len(m[5]), size}
		}
	}
	return read
}

// may: may the field be a text, by the chapter's words?
func (f told) may(text string) bool {
	long := len(text) == f.len
	if f.vary > 0 {
		long = len(text) <= f.len
	}
	return long && f.holds(text)
}

// holds: are all octets of the field's kind? Each octet is made a rune, as a regexp goes by runes.
func (f told) holds(text string) bool {
	runes := make([]rune, len(text))
	for at := range runes {
		runes[at] = rune(text[at])
	}
	return kinds[f.kind].MatchString(string(runes))
}

// pack is what the chapter says of Pack.
func pack(n int, text string) (string, api.Errno) {
	f, ok := fields[n]
	if !ok {
		return "", api.ErrNone
	}
	if !f.may(text) {
		return "", api.ErrField
	}
	if f.vary > 0 {
		return fmt.Sprintf("%0*d%s", f.vary, len(text), text), api.OK
	}
	return text, api.OK
}

// take is what the chapter says of Take.
func take(n int, text string) (string, int, api.Errno) {
	f, ok := fields[n]
	if !ok {
		return "", 0, api.ErrNone
	}
	size := f.len
	if f.vary > 0 {
		if len(text) < f.vary {
			return "", 0, api.ErrShort
		}
		if !kinds["n"].MatchString(text[:f.vary]) {
			return "", 0, api.ErrField
		}
		size, _ = strconv.Atoi(text[:f.vary])
		if size > f.len {
			return "", 0, api.ErrField
		}
	}
	if len(text) < f.vary+size {
		return "", 0, api.ErrShort
	}
	if got := text[f.vary : f.vary+size]; f.holds(got) {
		return got, f.vary + size, api.OK
	}
	return "", 0, api.ErrField
}

// some is a text of so many octets that the field's kind has.
func (f told) some(size int) string {
	least := map[string]string{"n": "0", "an": "a ", "ans": "~ !", "b": "\x00\xff"}[f.kind]
	return strings.Repeat(least, size)[:size]
}

// sizes are how long texts are that are tried: none, one, all that may be, and about it.
func (f told) sizes() []int {
	return []int{0, 1, f.len / 2, f.len - 1, f.len, f.len + 1, f.len + 100, 1000, 10000}
}

// Examples 1 to 4 of the chapter.
func TestExamples(t *testing.T) {
	if s, e := spec.Of(4); s != (api.Spec{Kind: api.KindN, Var: 0, Len: 12}) || e != api.OK {
		t.Errorf("Of(4): %v, %d", s, e)
	}
	if s, e := spec.Pack(32, "123456"); s != "06123456" || e != api.OK {
		t.Errorf("Pack(32): %q, %d", s, e)
	}
	if s, n, e := spec.Take(39, "00xyz"); s != "00" || n != 2 || e != api.OK {
		t.Errorf("Take(39): %q, %d, %d", s, n, e)
	}
	if spec.Valid(3, "12345") {
		t.Error("Valid(3, 12345)")
	}
}

// P16.1: what each field is, by the chapter's table; there is no other one.
func TestOf(t *testing.T) {
	if len(fields) != 126 {
		t.Fatalf("the table has %d fields", len(fields))
	}
	for n := -300; n <= 300; n++ {
		s, e := spec.Of(n)
		f, ok := fields[n]
		if !ok {
			if s != (api.Spec{}) || e != api.ErrNone {
				t.Errorf("Of(%d): %v, %d", n, s, e)
			}
			continue
		}
		if s != (api.Spec{Kind: numbered[f.kind], Var: f.vary, Len: f.len}) || e != api.OK {
			t.Errorf("Of(%d): %v, %d, want %v", n, s, e, f)
		}
	}
	for _, n := range none {
		if s, e := spec.Of(n); s != (api.Spec{}) || e != api.ErrNone {
			t.Errorf("Of(%d): %v, %d", n, s, e)
		}
	}
}

// P16.1: the fields' numbers are 2 to 64 and 66 to 128, rising.
func TestAll(t *testing.T) {
	var want []int
	for n := 2; n <= 128; n++ {
		if n != 65 {
			want = append(want, n)
		}
	}
	got := spec.All()
	if !slices.Equal(got, want) {
		t.Errorf("All: %v", got)
	}
	// R3: what is answered is new memory.
	clear(got)
	if again := spec.All(); !slices.Equal(again, want) {
		t.Errorf("All, behind a change of what it answered: %v", again)
	}
}

// P16.1, P16.2: every octet is of each kind or is not, in the first place and in the last one.
func TestOctets(t *testing.T) {
	has := func(kind string, c byte) bool {
		digit := c >= 48 && c <= 57
		plain := digit || c >= 65 && c <= 90 || c >= 97 && c <= 122 || c == 32
		return map[string]bool{"n": digit, "an": plain, "ans": c >= 32 && c <= 126, "b": true}[kind]
	}
	for _, n := range []int{3, 2, 37, 34, 42, 48, 52, 64, 96, 128} {
		f := fields[n]
		for c := range 256 {
			for _, at := range []int{0, f.len / 2, f.len - 1} {
				text := []byte(f.some(f.len))
				text[at] = byte(c)
				checkAll(t, n, string(text))
				if spec.Valid(n, string(text)) != has(f.kind, byte(c)) {
					t.Errorf("Valid(%d) of octet %d at %d", n, c, at)
				}
			}
		}
	}
}

// P16.1: hand-written texts that a field may be, or may not.
func TestValidWritten(t *testing.T) {
	for _, w := range []struct {
		n    int
		text string
		want bool
	}{
		{2, "", true}, {2, "4", true}, {2, "4111111111111111", true}, {2, strings.Repeat("4", 19), true}, {2, strings.Repeat("4", 20), false},
		{2, "41111111 1111111", false}, {2, "411111111111111x", false}, {2, "-1", false}, {2, "\u0661", false},
		{3, "000000", true}, {3, "12345", false}, {3, "1234567", false}, {3, "12345a", false}, {3, "", false}, {3, "12345:", false}, {3, "/12345", false},
		{27, "0", true}, {27, "", false}, {27, "00", false}, {27, " ", false},
		{37, "AZaz09 AZaz0", true}, {37, "AZaz09 AZaz-", false}, {37, "AZaz09 AZaz", false}, {37, "@ZAaz09 AZaz", false}, {37, "[ZAaz09 AZaz", false},
		{37, "`ZAaz09 AZaz", false}, {37, "{ZAaz09 AZaz", false}, {37, "\tZAaz09 AZaz", false}, {37, "            ", true},
		{39, "00", true}, {39, "0", false}, {39, "000", false}, {39, "é", false},
		{41, " ~!@#$%^", true}, {41, " ~!@#$%\x7f", false}, {41, "\x1f~!@#$%^", false}, {41, "\x80~!@#$%^", false}, {41, " ~!@#$%", false},
		{34, "", true}, {34, strings.Repeat(" ", 28), true}, {34, strings.Repeat(" ", 29), false},
		{48, "", true}, {48, strings.Repeat("~", 999), true}, {48, strings.Repeat("~", 1000), false}, {48, "\n", false},
		{52, "\x00\x01\x7f\x80\xff\n\r ", true}, {52, "", false}, {52, "\x00\x01\x7f\x80\xff\n\r", false}, {52, "\x00\x01\x7f\x80\xff\n\r 9", false},
		{54, strings.Repeat("1", 120), true}, {54, strings.Repeat("1", 121), false}, {54, "!", false},
		{90, strings.Repeat("0", 42), true}, {90, strings.Repeat("0", 41), false},
		{104, strings.Repeat("0", 100), true}, {104, strings.Repeat("0", 101), false},
		{128, "\xff\xff\xff\xff\xff\xff\xff\xff", true}, {128, "\xff", false},
		{1, "", false}, {65, "", false}, {0, "", false}, {129, "", false}, {-2, "4", false}, {1, "00000000", false}, {65, "0", false},
	} {
		if got := spec.Valid(w.n, w.text); got != w.want {
			t.Errorf("Valid(%d, %q): %v", w.n, w.text, got)
		}
	}
}

// P16.2: hand-written fields that are packed, and those that may not be.
func TestPackWritten(t *testing.T) {
	nines, tildes := strings.Repeat("9", 19), strings.Repeat("~", 999)
	for _, w := range []struct {
		n          int
		text, want string
		e          api.Errno
	}{
		{2, "4111111111111111", "164111111111111111", api.OK},
		{2, "", "00", api.OK},
		{2, "7", "017", api.OK},
		{2, nines, "19" + nines, api.OK},
		{2, nines + "9", "", api.ErrField},
		{2, "4a", "", api.ErrField},
		{3, "123456", "123456", api.OK},
		{3, "12345", "", api.ErrField},
		{3, "1234567", "", api.ErrField},
		{3, "12345 ", "", api.ErrField},
		{36, "", "000", api.OK},
		{36, strings.Repeat("x", 104), "104" + strings.Repeat("x", 104), api.OK},
		{36, strings.Repeat("x", 105), "", api.ErrField},
		{48, "hello", "005hello", api.OK},
		{48, tildes, "999" + tildes, api.OK},
		{48, tildes + "~", "", api.ErrField},
		{48, "\x7f", "", api.ErrField},
		{52, "\x00\xff\x00\xff\x00\xff\x00\xff", "\x00\xff\x00\xff\x00\xff\x00\xff", api.OK},
		{52, "\x00", "", api.ErrField},
		{54, "a b", "003a b", api.OK},
		{54, "a-b", "", api.ErrField},
		{100, "123456", "06123456", api.OK},
		{103, "ab", "02ab", api.OK},
		{1, "", "", api.ErrNone},
		{65, "12345678", "", api.ErrNone},
		{0, "", "", api.ErrNone},
		{129, "x", "", api.ErrNone},
		{-1, "\xff", "", api.ErrNone},
	} {
		if got, e := spec.Pack(w.n, w.text); got != w.want || e != w.e {
			t.Errorf("Pack(%d, %q): %q, %d, want %q, %d", w.n, w.text, got, e, w.want, w.e)
		}
	}
}

// P16.2: hand-written texts that begin with a field, and which error comes first of those that do not.
func TestTakeWritten(t *testing.T) {
	nines := strings.Repeat("9", 19)
	for _, w := range []struct {
		n          int
		text, want string
		size       int
		e          api.Errno
	}{
		{2, "164111111111111111", "4111111111111111", 18, api.OK},
		{2, "164111111111111111rest", "4111111111111111", 18, api.OK},
		{2, "00", "", 2, api.OK},
		{2, "00\xff", "", 2, api.OK},
		{2, "19" + nines, nines, 21, api.OK},
		{2, "20" + nines + "9", "", 0, api.ErrField}, // more than it may be
		{2, "20", "", 0, api.ErrField},               // and short: more comes first
		{2, "99", "", 0, api.ErrField},
		{2, "", "", 0, api.ErrShort}, // within what tells how long it is
		{2, "1", "", 0, api.ErrShort},
		{2, "x", "", 0, api.ErrShort}, // no digit, but short comes first
		{2, "1x", "", 0, api.ErrField},
		{2, "x1", "", 0, api.ErrField},
		{2, " 1", "", 0, api.ErrField},
		{2, "+1", "", 0, api.ErrField},
		{2, "-1", "", 0, api.ErrField},
		{2, "0:", "", 0, api.ErrField},
		{2, "/0", "", 0, api.ErrField},
		{2, "01", "", 0, api.ErrShort}, // ahead of the field's end
		{2, "021", "", 0, api.ErrShort},
		{2, "02x", "", 0, api.ErrShort}, // an octet of another kind, but short comes first
		{2, "01x", "", 0, api.ErrField},
		{2, "021x", "", 0, api.ErrField},
		{2, "011x", "1", 3, api.OK}, // of another kind behind the field
		{3, "123456", "123456", 6, api.OK},
		{3, "1234567", "123456", 6, api.OK},
		{3, "12345", "", 0, api.ErrShort},
		{3, "x", "", 0, api.ErrShort},
		{3, "", "", 0, api.ErrShort},
		{3, "12345x", "", 0, api.ErrField},
		{3, "x23456", "", 0, api.ErrField},
		{3, "123456x", "123456", 6, api.OK},
		{34, "28" + strings.Repeat("z", 28), strings.Repeat("z", 28), 30, api.OK},
		{34, "29" + strings.Repeat("z", 29), "", 0, api.ErrField},
		{34, "02a-", "", 0, api.ErrField},
		{36, "104" + strings.Repeat("z", 104), strings.Repeat("z", 104), 107, api.OK},
		{36, "105" + strings.Repeat("z", 105), "", 0, api.ErrField},
		{48, "", "", 0, api.ErrShort},
		{48, "00", "", 0, api.ErrShort},
		{48, "xx", "", 0, api.ErrShort},
		{48, "000", "", 3, api.OK},
		{48, "00x", "", 0, api.ErrField},
		{48, "999", "", 0, api.ErrShort},
		{48, "999" + strings.Repeat("~", 999), strings.Repeat("~", 999), 1002, api.OK},
		{48, "003a\x7fb", "", 0, api.ErrField},
		{48, "010hello", "", 0, api.ErrShort},
		{52, "12345678", "12345678", 8, api.OK},
		{52, "\xff\xfe\x00\x01\x02\x03\x04\x05\x06", "\xff\xfe\x00\x01\x02\x03\x04\x05", 8, api.OK},
		{52, "1234567", "", 0, api.ErrShort},
		{54, "120" + strings.Repeat(" ", 120), strings.Repeat(" ", 120), 123, api.OK},
		{54, "121" + strings.Repeat(" ", 121), "", 0, api.ErrField},
		{104, "100" + strings.Repeat(" ", 100), strings.Repeat(" ", 100), 103, api.OK},
		{104, "101" + strings.Repeat(" ", 101), "", 0, api.ErrField},
		{1, "", "", 0, api.ErrNone},
		{65, "1234567890", "", 0, api.ErrNone},
		{129, "00", "", 0, api.ErrNone},
		{0, "x", "", 0, api.ErrNone},
		{-3, "123456", "", 0, api.ErrNone},
	} {
		if got, size, e := spec.Take(w.n, w.text); got != w.want || size != w.size || e != w.e {
			t.Errorf("Take(%d, %q): %q, %d, %d, want %q, %d, %d", w.n, w.text, got, size, e, w.want, w.size, w.e)
		}
	}
}

// P16.1, P16.2: each field at its length and about it, and each beginning of what is packed.
func TestEveryField(t *testing.T) {
	for n, f := range fields {
		for _, size := range f.sizes() {
			text := f.some(size)
			checkAll(t, n, text)
			checkAll(t, n, text+"\xff")
			packed := fmt.Sprintf("%0*d%s", f.vary, size, text)
			if f.vary == 0 {
				packed = text
			}
			for _, cut := range []int{0, 1, 2, 3, 4, len(packed) - 1, len(packed)} {
				if cut >= 0 && cut <= len(packed) {
					checkAll(t, n, packed[:cut])
					checkAll(t, n, packed[:cut]+"\x00")
				}
			}
		}
	}
	for _, n := range none {
		for _, text := range []string{"", "0", "00", "000", "02ab", "12345678", strings.Repeat("1", 5000)} {
			checkAll(t, n, text)
		}
	}
}

// P16.1 to P16.3: texts of chance.
func TestByChance(t *testing.T) {
	r := rand.New(rand.NewSource(16))
	octets := "0123456789 azAZ~!\x00\x1f\x7f\xff"
	for range 40000 {
		n := r.Intn(132) - 1
		text := make([]byte, r.Intn(50))
		among := len(octets)
		if r.Intn(2) == 0 {
			among = 10
		}
		for at := range text {
			text[at] = octets[r.Intn(among)]
		}
		if f := fields[n]; f.vary > 0 && r.Intn(2) == 0 {
			text = append([]byte(fmt.Sprintf("%0*d", f.vary, len(text))), text...)
		}
		checkAll(t, n, string(text))
	}
}

// checkAll holds Valid, Pack and Take of a text against the chapter's words.
func checkAll(t *testing.T, n int, text string) {
	t.Helper()
	f, ok := fields[n]
	if got := spec.Valid(n, text); got != (ok && f.may(text)) {
		t.Errorf("Valid(%d, %q): %v", n, text, got)
	}
	want, wantE := pack(n, text)
	packed, e := spec.Pack(n, text)
	if packed != want || e != wantE {
		t.Errorf("Pack(%d, %q): %q, %d, want %q, %d", n, text, packed, e, want, wantE)
	}
	if e == api.OK {
		checkRound(t, n, text, packed)
	}
	field, size, e := spec.Take(n, text)
	wantField, wantSize, wantE := take(n, text)
	if field != wantField || size != wantSize || e != wantE {
		t.Errorf("Take(%d, %q): %q, %d, %d, want %q, %d, %d", n, text, field, size, e, wantField, wantSize, wantE)
	}
	if e == api.OK {
		if back, e := spec.Pack(n, field); back != text[:size] || e != api.OK {
			t.Errorf("Pack(%d, %q), taken from %q: %q, %d", n, field, text, back, e)
		}
	}
}

// checkRound: P16.3: what is packed is taken as it was, whatever stands behind it.
func checkRound(t *testing.T, n int, text, packed string) {
	t.Helper()
	for _, behind := range []string{"", "0", "x", "\xff\x00", packed} {
		if got, size, e := spec.Take(n, packed+behind); got != text || size != len(packed) || e != api.OK {
			t.Errorf("Take(%d, %q), with %q behind it: %q, %d, %d", n, packed, behind, got, size, e)
		}
	}
}

// P16.3: of each field, what is packed is taken as it was.
func TestRound(t *testing.T) {
	for n, f := range fields {
		for size := range f.len + 1 {
			if f.vary == 0 && size != f.len {
				continue
			}
			text := f.some(size)
			packed, e := spec.Pack(n, text)
			if e != api.OK || len(packed) != f.vary+size || !strings.HasSuffix(packed, text) {
				t.Fatalf("Pack(%d, %q): %q, %d", n, text, packed, e)
			}
			checkRound(t, n, text, packed)
		}
	}
}

// R4: what is answered hangs on what is asked alone.
func TestNothingIsKept(t *testing.T) {
	ask := func() string {
		var b strings.Builder
		for n := -1; n < 131; n++ {
			s, e := spec.Of(n)
			packed, pe := spec.Pack(n, "12345678")
			field, size, te := spec.Take(n, "03abc123456789012345")
			fmt.Fprintln(&b, s, e, spec.Valid(n, "123"), packed, pe, field, size, te)
		}
		return b.String()
	}
	if first := ask(); first != ask() {
		t.Error("asked twice, answered otherwise")
	}
}

// R1: long texts are answered, too.
func TestLong(t *testing.T) {
	long := strings.Repeat("9", 1<<22)
	for n := range 130 {
		checkAll(t, n, long)
	}
}
