package hold_test

import (
	"fmt"
	"math"
	"math/big"
	"math/rand"
	"regexp"
	"slices"
	"strings"
	"testing"

	"bursar/api"
	"bursar/hold"
)

const (
	most  = math.MaxInt64
	least = math.MinInt64
	late  = math.MaxInt32 // the last tick that an until may be
	rrn   = "0000000000AZ"
	acq   = "123456"
	card  = "4111111111111111"
	other = "5555555555554444"
)

// of is a hold of the card: so much approved, and captured.
func of(approved, captured int64, open bool) api.Hold {
	return api.Hold{RRN: rrn, Acq: acq, PAN: card, Approved: approved, Captured: captured, Until: 100, Open: open}
}

// till is a hold till another tick.
func till(h api.Hold, until int) api.Hold {
	h.Until = until
	return h
}

// on is a hold on another card.
func on(h api.Hold, pan string) api.Hold {
	h.PAN = pan
	return h
}

// wrong are holds that may not be, each for one reason alone.
func wrong() []api.Hold {
	var l []api.Hold
	with := func(change func(h *api.Hold)) {
		for _, open := range []bool{true, false} {
			h := of(100, 30, open)
			change(&h)
			l = append(l, h)
		}
	}
	for _, s := range []string{
		"", "00000000000", "0000000000000", "0000000000aZ", "0000000000A ", "0000000000A:", "0000000000A/", "@000000000AZ", "[000000000AZ", "`000000000AZ",
		"{000000000AZ", "00000\x000000AZ", "00000\xff0000AZ", "0000000000\u00c4", "000000000\u0661AZ", "000000000000000000000000", strings.Repeat("0", 1<<16),
	} {
		with(func(h *api.Hold) { h.RRN = s })
	}
	for _, s := range []string{"", "12345", "1234567", "12345A", "12345 ", "12345:", "12345/", "1234\u0661", "\xff23456", card, strings.Repeat("0", 1<<16)} {
		with(func(h *api.Hold) { h.Acq = s })
	}
	for _, s := range []string{"", "4111111111111112", "4111111111111110", "411111111111111", "41111111111111111", "4111111111111114 ", "411111111111111x", "1411111111111111", acq, strings.Repeat("0", 1<<16)} {
		with(func(h *api.Hold) { h.PAN = s })
	}
	for _, n := range []int64{-1, -30, 101, least, most} {
		with(func(h *api.Hold) { h.Captured = n })
	}
	for _, n := range []int64{29, 0, -1, least} {
		with(func(h *api.Hold) { h.Approved = n })
	}
	for _, n := range []int{-1, math.MinInt, late + 1, 1 << 32, 1<<32 + 5, math.MaxInt} {
		with(func(h *api.Hold) { h.Until = n })
	}
	return append(l, api.Hold{}, api.Hold{Open: true}, of(100, 100, true), of(0, 0, true), of(most, most, true), of(-1, -1, false), of(-1, -2, true), of(least, least, false))
}

// right are holds that may be.
func right() []api.Hold {
	var l []api.Hold
	for _, open := range []bool{true, false} {
		for _, h := range []api.Hold{
			of(100, 0, open), of(100, 30, open), of(100, 99, open), of(1, 0, open), of(most, 0, open), of(most, 1, open), of(most, most-1, open), of(1e13-1, 5, open), of(1e13, 1e13-2, open),
			on(of(7, 3, open), other), on(of(7, 3, open), "0000000000000000"),
			till(of(9, 1, open), 0), till(of(9, 1, open), 1), till(of(9, 1, open), late), till(of(9, 1, open), late-1), till(of(9, 1, open), 1234567890),
			{RRN: "A1B2C3D4E5F6", Acq: "000000", PAN: other, Approved: 12345, Captured: 678, Until: 7, Open: open},
			{RRN: "ZZZZZZZZZZZZ", Acq: "999999", PAN: card, Approved: 6, Captured: 5, Until: 7, Open: open},
			{RRN: "999999999999", Acq: "000009", PAN: card, Approved: 2, Until: 7, Open: open},
			{RRN: "AAAAAAAAAAAA", Acq: "900000", PAN: card, Approved: 2, Until: 7, Open: open},
		} {
			l = append(l, h)
		}
	}
	return append(l, of(0, 0, false), of(1, 1, false), of(100, 100, false), of(most, most, false))
}

// told is a hold, for what a test tells.
func told(h api.Hold) string {
	return fmt.Sprintf("{%.20q %.20q %.20q approved %d captured %d until %d open %v}", h.RRN, h.Acq, h.PAN, h.Approved, h.Captured, h.Until, h.Open)
}

// shown are holds, for what a test tells.
func shown(l []api.Hold) string {
	var s strings.Builder
	fmt.Fprintf(&s, "%d holds", len(l))
	for _, h := range l[:min(len(l), 5)] {
		s.WriteString(" " + told(h))
	}
	return s.String()
}

// doubles is what each digit counts where it is doubled, reckoned by hand.
var doubles = [10]int{0, 2, 4, 6, 8, 1, 3, 5, 7, 9}

// isPan tells it by chapter 2's and 11's words: 16 sound digits.
func isPan(id string) bool {
	if len(id) != 16 || strings.Trim(id, "0123456789") != "" {
		return false
	}
	sum := 0
	for i := 0; i < 16; i += 2 {
		sum += doubles[id[i]-'0'] + int(id[i+1]-'0')
	}
	return sum%10 == 0
}

var (
	reference = regexp.MustCompile(`\A[0-9A-Z]{12}\z`)
	sixDigits = regexp.MustCompile(`\A[0-9]{6}\z`)
	texts     = regexp.MustCompile(`\A([0-9A-Z]{12})([0-9]{6})([0-9]{16})([0-9]{10})([oc])((?:0|[1-9][0-9]*)\.[0-9][0-9]) ((?:0|[1-9][0-9]*)\.[0-9][0-9])\z`)
)

// mayBe tells it of a hold by the chapter's words.
func mayBe(h api.Hold) bool {
	if !reference.MatchString(h.RRN) || !sixDigits.MatchString(h.Acq) || !isPan(h.PAN) {
		return false
	}
	if h.Until < 0 || h.Until > 2147483647 || h.Captured < 0 || h.Captured > h.Approved {
		return false
	}
	return !h.Open || h.Approved > h.Captured
}

// texted is the text of a hold that may be, by the chapter's words.
func texted(h api.Hold) string {
	return fmt.Sprintf("%s%s%s%010d%c%d.%02d %d.%02d", h.RRN, h.Acq, h.PAN, h.Until, map[bool]rune{true: 'o', false: 'c'}[h.Open], h.Approved/100, h.Approved%100, h.Captured/100, h.Captured%100)
}

// read is the hold of a text by the chapter's words, if it is one's.
func read(s string) (api.Hold, bool) {
	parts := texts.FindStringSubmatch(s)
	if parts == nil {
		return api.Hold{}, false
	}
	var numbers []int64
	for _, digits := range []string{parts[4], parts[6], parts[7]} {
		n, _ := new(big.Int).SetString(strings.Replace(digits, ".", "", 1), 10)
		if !n.IsInt64() {
			return api.Hold{}, false
		}
		numbers = append(numbers, n.Int64())
	}
	h := api.Hold{RRN: parts[1], Acq: parts[2], PAN: parts[3], Until: int(numbers[0]), Open: parts[5] == "o", Approved: numbers[1], Captured: numbers[2]}
	return h, mayBe(h)
}

// What may be done to a hold.
const (
	more = iota
	take
	takeLast
	less
	undo
	behind
)

// does does it by the program.
func does(what int, h api.Hold, amount int64, until int) (api.Hold, api.Errno) {
	switch what {
	case more:
		return hold.More(h, amount, until)
	case take, takeLast:
		return hold.Take(h, amount, what == takeLast)
	case less:
		return hold.Less(h, amount)
	}
	return hold.Undo(h)
}

// done is what comes of it by the chapter's words.
func done(what int, h api.Hold, amount int64, until int) (api.Hold, api.Errno) {
	approved, captured, by := big.NewInt(h.Approved), big.NewInt(h.Captured), big.NewInt(amount)
	left := new(big.Int).Sub(approved, captured)
	switch {
	case !mayBe(h):
		return api.Hold{}, api.ErrArg
	case !h.Open:
		return api.Hold{}, api.ErrEnd
	case what != undo && amount < 1:
		return api.Hold{}, api.ErrArg
	case what == more && (until < 0 || until > 2147483647):
		return api.Hold{}, api.ErrArg
	case what == more && !approved.Add(approved, by).IsInt64():
		return api.Hold{}, api.ErrOver
	case (what == take || what == takeLast || what == less) && left.Cmp(by) < 0:
		return api.Hold{}, api.ErrFunds
	}
	switch what {
	case more:
		h.Until = until
	case take, takeLast:
		captured.Add(captured, by)
	case less:
		approved.Sub(approved, by)
	case undo:
		approved.Set(captured)
	}
	h.Approved, h.Captured = approved.Int64(), captured.Int64()
	if approved.Cmp(captured) == 0 || what == takeLast {
		h.Open = false
	}
	return h, api.OK
}

// checkHold holds May, Key, Left, Text and Parse against the chapter's words.
func checkHold(t *testing.T, h api.Hold) {
	t.Helper()
	may := mayBe(h)
	if got := hold.May(h); got != may {
		t.Fatalf("May(%s): %v, want %v", told(h), got, may)
	}
	key, left, text, e := "", int64(0), "", api.ErrArg
	if may {
		key, text, e = h.RRN+h.Acq, texted(h), api.OK
		if h.Open {
			left = h.Approved - h.Captured
		}
	}
	if got := hold.Key(h); got != key {
		t.Fatalf("Key(%s): %.40q, want %q", told(h), got, key)
	}
	if got := hold.Left(h); got != left {
		t.Fatalf("Left(%s): %d, want %d", told(h), got, left)
	}
	if got, f := hold.Text(h); got != text || f != e {
		t.Fatalf("Text(%s): %.100q, %d; want %.100q, %d", told(h), got, f, text, e)
	}
	if got, f := hold.Parse(text); may && (got != h || f != api.OK) {
		t.Fatalf("Parse(%q): %s, %d; want %s", text, told(got), f, told(h))
	}
}

// checkDone holds what is done to a hold against the chapter's words.
func checkDone(t *testing.T, h api.Hold, amount int64, until int) {
	t.Helper()
	for what := range behind {
		want, e := done(what, h, amount, until)
		got, f := does(what, h, amount, until)
		if got != want || f != e {
			t.Fatalf("%d of %s by %d, till %d: %s, %d; want %s, %d", what, told(h), amount, until, told(got), f, told(want), e)
		}
		if f == api.OK && !hold.May(got) {
			t.Fatalf("%d of %s by %d, till %d: %s may not be", what, told(h), amount, until, told(got))
		}
	}
}

// checkLapse holds Lapse against the chapter's words.
func checkLapse(t *testing.T, h api.Hold, tick int) {
	t.Helper()
	want, lapsed := h, false
	if !mayBe(h) {
		want = api.Hold{}
	} else if h.Open && tick > h.Until {
		want.Open, lapsed = false, true
	}
	if got, ok := hold.Lapse(h, tick); got != want || ok != lapsed {
		t.Fatalf("Lapse(%s, %d): %s, %v; want %s, %v", told(h), tick, told(got), ok, told(want), lapsed)
	}
}

// checkHeld holds Held against the chapter's words.
func checkHeld(t *testing.T, l []api.Hold, pan string) {
	t.Helper()
	was, sum, e := slices.Clone(l), new(big.Int), api.OK
	for _, h := range l {
		if !mayBe(h) {
			e = api.ErrArg
		}
		if h.PAN == pan && h.Open {
			sum.Add(sum, big.NewInt(h.Approved))
			sum.Sub(sum, big.NewInt(h.Captured))
		}
	}
	if e == api.OK && !sum.IsInt64() {
		e = api.ErrOver
	}
	want := int64(0)
	if e == api.OK {
		want = sum.Int64()
	}
	if got, f := hold.Held(l, pan); got != want || f != e {
		t.Fatalf("Held(%s, %.20q): %d, %d; want %d, %d", shown(l), pan, got, f, want, e)
	}
	if !slices.Equal(l, was) {
		t.Fatalf("Held changed the holds to %s: %s", shown(l), shown(was))
	}
}

// checkParse holds Parse against the chapter's words.
func checkParse(t *testing.T, s string) {
	t.Helper()
	want, is := read(s)
	if !is {
		want = api.Hold{}
	}
	got, e := hold.Parse(s)
	if got != want || (e == api.OK) != is || !is && e != api.ErrForm {
		t.Fatalf("Parse(%.100q): %s, %d; want %s, %v", s, told(got), e, told(want), is)
	}
	if !is {
		return
	}
	if text, e := hold.Text(got); text != s || e != api.OK {
		t.Fatalf("Text behind Parse(%.100q): %.100q, %d", s, text, e)
	}
}

// anyHold is a hold that may be, with amounts below the bound.
func anyHold(r *rand.Rand, bound int64) api.Hold {
	octets := "0123456789ABCDEFGHIJKLMNOPQRSTUVWXYZ"
	h := api.Hold{Acq: fmt.Sprintf("%06d", r.Intn(1000000)), Until: r.Intn(late), Open: r.Intn(3) > 0}
	for range 12 {
		h.RRN += octets[r.Intn(36):][:1]
	}
	for !isPan(h.PAN) {
		h.PAN = fmt.Sprintf("%016d", r.Int63n(1e16))
	}
	h.Approved = 1 + r.Int63n(bound)
	h.Captured = r.Int63n(h.Approved)
	if !h.Open && r.Intn(3) == 0 {
		h.Captured = h.Approved
	}
	return h
}

func TestExamples(t *testing.T) {
	h := of(100, 0, true)
	if h, e := hold.Take(h, 30, false); hold.Left(h) != 70 || !h.Open || e != api.OK {
		t.Errorf("1: %s, %d", told(h), e)
	}
	some, _ := hold.Take(h, 30, false)
	if h, e := hold.Take(some, 70, false); hold.Left(h) != 0 || h.Open || e != api.OK {
		t.Errorf("2: %s, %d", told(h), e)
	}
	if h, e := hold.Less(h, 100); hold.Left(h) != 0 || h.Open || e != api.OK {
		t.Errorf("3: %s, %d", told(h), e)
	}
	if h, e := hold.Take(h, 101, false); h != (api.Hold{}) || e != api.ErrFunds {
		t.Errorf("4: %s, %d", told(h), e)
	}
}

// P14.1: which texts are references, written out.
func TestRefWritten(t *testing.T) {
	for _, c := range []struct {
		s  string
		is bool
	}{
		{"000000000000", true}, {"999999999999", true}, {"AAAAAAAAAAAA", true}, {"ZZZZZZZZZZZZ", true}, {"A1B2C3D4E5F6", true}, {"09AZ09AZ09AZ", true},
		{"", false}, {"0", false}, {"00000000000", false}, {"0000000000000", false}, {"AAAAAAAAAAA", false}, {"AAAAAAAAAAAAA", false}, {"000000000000000000000000", false},
		{"a00000000000", false}, {"00000000000z", false}, {"zzzzzzzzzzzz", false}, {"00000 000000", false}, {" 00000000000", false}, {"00000000000 ", false},
		{"00000000000\n", false}, {"000000000000\n", false}, {"00000000000/", false}, {":00000000000", false}, {"00000@000000", false}, {"[AAAAAAAAAAA", false}, {"AAAAAAAAAAA`", false},
		{"{AAAAAAAAAAA", false}, {"AAAAA\x00AAAAAA", false}, {"AAAAAA\xffAAAAA", false}, {"-00000000001", false}, {"+00000000001", false}, {"0000000000.0", false},
		{"0000000000\u00c4", false}, {"00000000000\u00c4", false}, {"\u0661\u0661\u0661\u0661\u0661\u0661", false}, {"AAAAAAAAAA\u212a", false}, {"\uff21\uff21\uff21\uff21", false},
	} {
		if got := hold.Ref(c.s); got != c.is {
			t.Errorf("Ref(%q): %v", c.s, got)
		}
	}
}

// P14.1: each octet at each place of a reference, and of a hold's.
func TestRefOctets(t *testing.T) {
	for octet := range 256 {
		for at := range 12 {
			for _, text := range []string{"000000000000", "AAAAAAAAAAAA", "9Z9Z9Z9Z9Z9Z"} {
				s := text[:at] + string([]byte{byte(octet)}) + text[at+1:]
				is := octet >= 48 && octet <= 57 || octet >= 65 && octet <= 90
				if got := hold.Ref(s); got != is {
					t.Errorf("Ref(%q): %v", s, got)
				}
				h := of(100, 30, true)
				h.RRN = s
				checkHold(t, h)
			}
		}
	}
}

// P14.1: references of none to many octets.
func TestRefLengths(t *testing.T) {
	for n := range 300 {
		for _, octet := range []string{"0", "A", "a"} {
			s := strings.Repeat(octet, n)
			if got := hold.Ref(s); got != (n == 12 && octet != "a") {
				t.Errorf("Ref of %d times %s: %v", n, octet, got)
			}
		}
	}
}

// P14.1: which holds may be, and their keys, and what is left of them, written out.
func TestMayWritten(t *testing.T) {
	for _, c := range []struct {
		approved, captured int64
		open, may          bool
		left               int64
	}{
		{100, 0, true, true, 100}, {100, 0, false, true, 0},
		{100, 30, true, true, 70}, {100, 30, false, true, 0},
		{100, 99, true, true, 1}, {100, 99, false, true, 0},
		{100, 100, true, false, 0}, {100, 100, false, true, 0},
		{100, 101, true, false, 0}, {100, 101, false, false, 0},
		{100, -1, true, false, 0}, {100, -1, false, false, 0},
		{1, 0, true, true, 1}, {0, 0, true, false, 0}, {0, 0, false, true, 0},
		{0, 1, true, false, 0}, {0, 1, false, false, 0}, {-1, 0, true, false, 0}, {-1, 0, false, false, 0},
		{-1, -1, false, false, 0}, {-1, -1, true, false, 0}, {-1, -2, true, false, 0}, {-5, -7, false, false, 0},
		{most, 0, true, true, most}, {most, most - 1, true, true, 1}, {most, most, true, false, 0}, {most, most, false, true, 0},
		{most, -1, true, false, 0}, {most, least, true, false, 0}, {least, 0, true, false, 0}, {least, least, false, false, 0}, {0, least, true, false, 0},
	} {
		h, key := of(c.approved, c.captured, c.open), ""
		if c.may {
			key = "0000000000AZ123456"
		}
		if may := hold.May(h); may != c.may {
			t.Errorf("May(%s): %v", told(h), may)
		}
		if left := hold.Left(h); left != c.left {
			t.Errorf("Left(%s): %d, want %d", told(h), left, c.left)
		}
		if got := hold.Key(h); got != key {
			t.Errorf("Key(%s): %q", told(h), got)
		}
		checkHold(t, h)
	}
}

// P14.1: till when a hold may be.
func TestUntil(t *testing.T) {
	for _, c := range []struct {
		until int
		may   bool
	}{
		{0, true}, {1, true}, {-1, false}, {2147483646, true}, {2147483647, true}, {2147483648, false}, {4294967295, false}, {4294967296, false}, {4294967297, false},
		{9999999999, false}, {10000000000, false}, {-2147483648, false}, {math.MaxInt, false}, {math.MinInt, false},
	} {
		for _, h := range []api.Hold{of(100, 30, true), of(100, 30, false), of(5, 5, false)} {
			if may := hold.May(till(h, c.until)); may != c.may {
				t.Errorf("May(%s): %v", told(till(h, c.until)), may)
			}
			checkHold(t, till(h, c.until))
		}
	}
}

// P14.1: whose a hold may be.
func TestWhose(t *testing.T) {
	acquirers := []string{"000000", "999999", "123456", "", "12345", "1234567", "12345x", "12345X", " 12345", "12345:", "12345/", "-12345", "A12345", card}
	cards := []string{card, other, "0000000000000000", "", "4111111111111112", "411111111111111", "41111111111111111", "041111111111111111", "C4111111111111111", "411111111111111a", acq, "4242424242424242"}
	for i, acquirer := range acquirers {
		for j, pan := range cards {
			h := api.Hold{RRN: rrn, Acq: acquirer, PAN: pan, Approved: 100, Captured: 30, Until: 5, Open: true}
			if may := hold.May(h); may != (i < 3 && (j < 3 || j == 11)) {
				t.Errorf("May(%s): %v", told(h), may)
			}
			checkHold(t, h)
		}
	}
	// Just one last digit makes digits sound.
	for _, digits := range []string{"411111111111111", "000000000000000", "999999999999999", "123456789012345"} {
		times := 0
		for last := range 10 {
			h := on(of(100, 30, true), fmt.Sprint(digits, last))
			if checkHold(t, h); hold.May(h) {
				times++
			}
		}
		if times != 1 {
			t.Errorf("%s: %d of its last digits may be", digits, times)
		}
	}
}

// P14.1: holds that may be, and ones that may not.
func TestRightAndWrong(t *testing.T) {
	for _, h := range right() {
		if !hold.May(h) {
			t.Errorf("%s may not be", told(h))
		}
		checkHold(t, h)
	}
	for _, h := range wrong() {
		if hold.May(h) {
			t.Errorf("%s may be", told(h))
		}
		checkHold(t, h)
	}
}

// P14.1: what all others answer of a hold that may not be.
func TestOfOneThatMayNotBe(t *testing.T) {
	for _, h := range wrong() {
		for _, amount := range []int64{1, 50, 70, 71, 0, -1, most, least} {
			for _, until := range []int{5, -1, late + 1} {
				for what := range behind {
					if got, e := does(what, h, amount, until); got != (api.Hold{}) || e != api.ErrArg {
						t.Errorf("%d of %s by %d, till %d: %s, %d", what, told(h), amount, until, told(got), e)
					}
				}
			}
		}
		if key, left := hold.Key(h), hold.Left(h); key != "" || left != 0 {
			t.Errorf("%s: key %.40q, left %d", told(h), key, left)
		}
		if text, e := hold.Text(h); text != "" || e != api.ErrArg {
			t.Errorf("Text(%s): %.40q, %d", told(h), text, e)
		}
		for _, tick := range []int{0, 101, h.Until, math.MaxInt, math.MinInt} {
			if got, lapsed := hold.Lapse(h, tick); got != (api.Hold{}) || lapsed {
				t.Errorf("Lapse(%s, %d): %s, %v", told(h), tick, told(got), lapsed)
			}
		}
		if sum, e := hold.Held([]api.Hold{h}, h.PAN); sum != 0 || e != api.ErrArg {
			t.Errorf("Held(%s): %d, %d", told(h), sum, e)
		}
	}
}

// P14.2: what comes of more, written out.
func TestMoreWritten(t *testing.T) {
	for _, c := range []struct {
		h      api.Hold
		amount int64
		until  int
		want   api.Hold
		e      api.Errno
	}{
		{of(100, 0, true), 1, 100, of(101, 0, true), api.OK},
		{of(100, 30, true), 70, 200, till(of(170, 30, true), 200), api.OK},
		// It may be till a tick that is ahead, too.
		{of(100, 30, true), 5, 99, till(of(105, 30, true), 99), api.OK},
		{of(100, 30, true), 5, 0, till(of(105, 30, true), 0), api.OK},
		{of(100, 30, true), 5, late, till(of(105, 30, true), late), api.OK},
		{of(100, 30, true), 5, late + 1, api.Hold{}, api.ErrArg},
		{of(100, 30, true), 5, -1, api.Hold{}, api.ErrArg},
		{of(100, 30, true), 5, 1<<32 + 7, api.Hold{}, api.ErrArg},
		{of(100, 30, true), 5, math.MaxInt, api.Hold{}, api.ErrArg},
		{of(100, 30, true), 5, math.MinInt, api.Hold{}, api.ErrArg},
		{of(100, 30, true), 0, 100, api.Hold{}, api.ErrArg},
		{of(100, 30, true), -1, 100, api.Hold{}, api.ErrArg},
		{of(100, 30, true), -70, 100, api.Hold{}, api.ErrArg},
		{of(100, 30, true), least, 100, api.Hold{}, api.ErrArg},
		{of(100, 30, true), most - 100, 100, of(most, 30, true), api.OK},
		{of(100, 30, true), most - 99, 100, api.Hold{}, api.ErrOver},
		{of(100, 30, true), most, 100, api.Hold{}, api.ErrOver},
		{of(1, 0, true), most - 1, 100, of(most, 0, true), api.OK},
		{of(1, 0, true), most, 100, api.Hold{}, api.ErrOver},
		{of(most-1, 0, true), 1, 100, of(most, 0, true), api.OK},
		{of(most, 0, true), 1, 100, api.Hold{}, api.ErrOver},
		{of(most, most-1, true), 1, 100, api.Hold{}, api.ErrOver},
		// Which error comes first.
		{of(most, 0, true), most, -1, api.Hold{}, api.ErrArg},
		{of(most, 0, true), most, late + 1, api.Hold{}, api.ErrArg},
		{of(100, 30, false), 5, 100, api.Hold{}, api.ErrEnd},
		{of(100, 30, false), 0, 100, api.Hold{}, api.ErrEnd},
		{of(100, 30, false), least, -1, api.Hold{}, api.ErrEnd},
		{of(most, 30, false), most, 100, api.Hold{}, api.ErrEnd},
		{of(0, 0, false), 5, 100, api.Hold{}, api.ErrEnd},
		{of(100, 100, false), 5, 100, api.Hold{}, api.ErrEnd},
		{of(100, 100, true), 5, 100, api.Hold{}, api.ErrArg},
		{of(100, 101, false), 5, 100, api.Hold{}, api.ErrArg},
		{till(of(100, 30, true), -1), 5, 100, api.Hold{}, api.ErrArg},
	} {
		if got, e := hold.More(c.h, c.amount, c.until); got != c.want || e != c.e {
			t.Errorf("More(%s, %d, %d): %s, %d; want %s, %d", told(c.h), c.amount, c.until, told(got), e, told(c.want), c.e)
		}
		checkDone(t, c.h, c.amount, c.until)
	}
}

// P14.2: what comes of a take, written out.
func TestTakeWritten(t *testing.T) {
	for _, c := range []struct {
		h      api.Hold
		amount int64
		last   bool
		want   api.Hold
		e      api.Errno
	}{
		{of(100, 0, true), 30, false, of(100, 30, true), api.OK},
		{of(100, 0, true), 30, true, of(100, 30, false), api.OK},
		{of(100, 30, true), 1, false, of(100, 31, true), api.OK},
		{of(100, 30, true), 69, false, of(100, 99, true), api.OK},
		{of(100, 30, true), 69, true, of(100, 99, false), api.OK},
		{of(100, 30, true), 70, false, of(100, 100, false), api.OK},
		{of(100, 30, true), 70, true, of(100, 100, false), api.OK},
		{of(100, 30, true), 71, false, api.Hold{}, api.ErrFunds},
		{of(100, 30, true), 71, true, api.Hold{}, api.ErrFunds},
		{of(100, 30, true), 100, false, api.Hold{}, api.ErrFunds},
		{of(100, 30, true), most, false, api.Hold{}, api.ErrFunds},
		{of(100, 30, true), most, true, api.Hold{}, api.ErrFunds},
		{of(100, 30, true), 0, false, api.Hold{}, api.ErrArg},
		{of(100, 30, true), 0, true, api.Hold{}, api.ErrArg},
		{of(100, 30, true), -1, false, api.Hold{}, api.ErrArg},
		{of(100, 30, true), -30, true, api.Hold{}, api.ErrArg},
		{of(100, 30, true), least, false, api.Hold{}, api.ErrArg},
		{of(1, 0, true), 1, false, of(1, 1, false), api.OK},
		{of(most, 0, true), most, false, of(most, most, false), api.OK},
		{of(most, 0, true), most - 1, false, of(most, most-1, true), api.OK},
		{of(most, 1, true), most - 1, false, of(most, most, false), api.OK},
		{of(most, 1, true), most, false, api.Hold{}, api.ErrFunds},
		{of(100, 30, false), 70, false, api.Hold{}, api.ErrEnd},
		{of(100, 30, false), 71, true, api.Hold{}, api.ErrEnd},
		{of(100, 30, false), 0, true, api.Hold{}, api.ErrEnd},
		{of(100, 30, false), least, false, api.Hold{}, api.ErrEnd},
		{of(100, 100, false), 1, false, api.Hold{}, api.ErrEnd},
		{of(0, 0, false), 1, false, api.Hold{}, api.ErrEnd},
		{of(100, 100, true), 1, false, api.Hold{}, api.ErrArg},
		{of(100, -1, true), 1, false, api.Hold{}, api.ErrArg},
		{of(100, -1, false), 1, true, api.Hold{}, api.ErrArg},
		{on(of(100, 30, true), "4111111111111112"), 1, true, api.Hold{}, api.ErrArg},
	} {
		if got, e := hold.Take(c.h, c.amount, c.last); got != c.want || e != c.e {
			t.Errorf("Take(%s, %d, %v): %s, %d; want %s, %d", told(c.h), c.amount, c.last, told(got), e, told(c.want), c.e)
		}
		checkDone(t, c.h, c.amount, 5)
	}
}

// P14.2: what comes of less, written out.
func TestLessWritten(t *testing.T) {
	for _, c := range []struct {
		h      api.Hold
		amount int64
		want   api.Hold
		e      api.Errno
	}{
		{of(100, 0, true), 1, of(99, 0, true), api.OK},
		{of(100, 0, true), 99, of(1, 0, true), api.OK},
		{of(100, 0, true), 100, of(0, 0, false), api.OK},
		{of(100, 0, true), 101, api.Hold{}, api.ErrFunds},
		{of(100, 30, true), 69, of(31, 30, true), api.OK},
		{of(100, 30, true), 70, of(30, 30, false), api.OK},
		{of(100, 30, true), 71, api.Hold{}, api.ErrFunds},
		{of(100, 30, true), 100, api.Hold{}, api.ErrFunds},
		{of(100, 30, true), 130, api.Hold{}, api.ErrFunds},
		{of(100, 30, true), most, api.Hold{}, api.ErrFunds},
		{of(100, 30, true), 0, api.Hold{}, api.ErrArg},
		{of(100, 30, true), -1, api.Hold{}, api.ErrArg},
		{of(100, 30, true), least, api.Hold{}, api.ErrArg},
		{of(most, 0, true), most, of(0, 0, false), api.OK},
		{of(most, 0, true), most - 1, of(1, 0, true), api.OK},
		{of(most, most-1, true), 1, of(most-1, most-1, false), api.OK},
		{of(most, most-1, true), 2, api.Hold{}, api.ErrFunds},
		{of(100, 30, false), 1, api.Hold{}, api.ErrEnd},
		{of(100, 30, false), 71, api.Hold{}, api.ErrEnd},
		{of(100, 30, false), 0, api.Hold{}, api.ErrEnd},
		{of(100, 30, false), -1, api.Hold{}, api.ErrEnd},
		{of(0, 0, false), 1, api.Hold{}, api.ErrEnd},
		{of(100, 100, true), 1, api.Hold{}, api.ErrArg},
		{of(100, 101, false), 1, api.Hold{}, api.ErrArg},
		{till(of(100, 30, true), late+1), 1, api.Hold{}, api.ErrArg},
	} {
		if got, e := hold.Less(c.h, c.amount); got != c.want || e != c.e {
			t.Errorf("Less(%s, %d): %s, %d; want %s, %d", told(c.h), c.amount, told(got), e, told(c.want), c.e)
		}
		checkDone(t, c.h, c.amount, 5)
	}
}

// P14.2: what comes of an undo, written out.
func TestUndoWritten(t *testing.T) {
	for _, c := range []struct {
		h, want api.Hold
		e       api.Errno
	}{
		{of(100, 0, true), of(0, 0, false), api.OK},
		{of(100, 30, true), of(30, 30, false), api.OK},
		{of(100, 99, true), of(99, 99, false), api.OK},
		{of(1, 0, true), of(0, 0, false), api.OK},
		{of(most, 0, true), of(0, 0, false), api.OK},
		{of(most, most-1, true), of(most-1, most-1, false), api.OK},
		{till(of(100, 30, true), 0), till(of(30, 30, false), 0), api.OK},
		{of(100, 0, false), api.Hold{}, api.ErrEnd},
		{of(100, 30, false), api.Hold{}, api.ErrEnd},
		{of(100, 100, false), api.Hold{}, api.ErrEnd},
		{of(0, 0, false), api.Hold{}, api.ErrEnd},
		{of(100, 100, true), api.Hold{}, api.ErrArg},
		{of(100, -1, true), api.Hold{}, api.ErrArg},
		{of(100, 101, false), api.Hold{}, api.ErrArg},
		{api.Hold{}, api.Hold{}, api.ErrArg},
	} {
		if got, e := hold.Undo(c.h); got != c.want || e != c.e {
			t.Errorf("Undo(%s): %s, %d; want %s, %d", told(c.h), told(got), e, told(c.want), c.e)
		}
	}
}

// P14.2: what is done to each of the holds, by amounts about what is left and about the ends, till ticks about the ends.
func TestWhatIsDone(t *testing.T) {
	for _, h := range append(right(), wrong()...) {
		left := h.Approved - h.Captured
		for _, amount := range []int64{least, least + 1, -left, -1, 0, 1, 2, left - 1, left, left + 1, h.Approved, most - h.Approved, most - h.Approved + 1, most - left, most - 1, most} {
			for _, until := range []int{math.MinInt, -1, 0, h.Until, late, late + 1, math.MaxInt} {
				checkDone(t, h, amount, until)
			}
		}
	}
}

// P14.2: what is done to many holds.
func TestWhatIsDoneToMany(t *testing.T) {
	r := rand.New(rand.NewSource(1))
	for _, bound := range []int64{1, 2, 5, 100, 1e13, most} {
		for range 3000 {
			h := anyHold(r, bound)
			checkHold(t, h)
			checkDone(t, h, r.Int63n(bound)+int64(r.Intn(2)), r.Intn(1<<33)-1<<31)
			checkDone(t, h, h.Approved-h.Captured+int64(r.Intn(3))-1, r.Intn(late))
			checkLapse(t, h, h.Until+r.Intn(3)-1)
		}
	}
}

// P14.3: when a hold lapses, written out.
func TestLapseWritten(t *testing.T) {
	for _, c := range []struct {
		h      api.Hold
		tick   int
		want   api.Hold
		lapsed bool
	}{
		{of(100, 30, true), 99, of(100, 30, true), false},
		{of(100, 30, true), 100, of(100, 30, true), false},
		{of(100, 30, true), 101, of(100, 30, false), true},
		{of(100, 0, true), 101, of(100, 0, false), true},
		{of(100, 30, true), 0, of(100, 30, true), false},
		{of(100, 30, true), -1, of(100, 30, true), false},
		{of(100, 30, true), math.MinInt, of(100, 30, true), false},
		{of(100, 30, true), math.MaxInt, of(100, 30, false), true},
		{of(100, 30, true), late + 1, of(100, 30, false), true},
		{of(100, 30, true), 1<<32 + 5, of(100, 30, false), true},
		{of(100, 30, false), 99, of(100, 30, false), false},
		{of(100, 30, false), 101, of(100, 30, false), false},
		{of(100, 30, false), math.MaxInt, of(100, 30, false), false},
		{of(0, 0, false), 101, of(0, 0, false), false},
		{of(100, 100, false), 101, of(100, 100, false), false},
		{till(of(100, 30, true), 0), 0, till(of(100, 30, true), 0), false},
		{till(of(100, 30, true), 0), 1, till(of(100, 30, false), 0), true},
		{till(of(100, 30, true), 0), -1, till(of(100, 30, true), 0), false},
		{till(of(100, 30, true), late), late, till(of(100, 30, true), late), false},
		{till(of(100, 30, true), late), late + 1, till(of(100, 30, false), late), true},
		{till(of(100, 30, true), late), math.MaxInt, till(of(100, 30, false), late), true},
	} {
		got, lapsed := hold.Lapse(c.h, c.tick)
		if got != c.want || lapsed != c.lapsed {
			t.Errorf("Lapse(%s, %d): %s, %v; want %s, %v", told(c.h), c.tick, told(got), lapsed, told(c.want), c.lapsed)
		}
		checkLapse(t, c.h, c.tick)
		// Nothing is left of it then, nothing is done to it, and it lapses no more.
		if lapsed && hold.Left(got) != 0 {
			t.Errorf("%s: %d is left", told(got), hold.Left(got))
		}
		checkDone(t, got, 1, 5)
		checkLapse(t, got, math.MaxInt)
	}
}

// P14.3: each of the holds, about its last tick.
func TestLapse(t *testing.T) {
	for _, h := range append(right(), wrong()...) {
		for _, tick := range []int{math.MinInt, -1, 0, 1, h.Until - 1, h.Until, h.Until + 1, late, late + 1, math.MaxInt} {
			checkLapse(t, h, tick)
		}
	}
}

// P14.3: what is held on a card, written out.
func TestHeldWritten(t *testing.T) {
	mine, theirs := of(100, 30, true), on(of(50, 1, true), other)
	bad, worse := of(100, 100, true), on(of(100, -1, false), other)
	for i, c := range []struct {
		l    []api.Hold
		pan  string
		want int64
		e    api.Errno
	}{
		{nil, card, 0, api.OK},
		{[]api.Hold{}, card, 0, api.OK},
		{nil, "", 0, api.OK},
		{nil, "x", 0, api.OK},
		{[]api.Hold{mine}, card, 70, api.OK},
		{[]api.Hold{mine}, other, 0, api.OK},
		{[]api.Hold{mine}, "", 0, api.OK},
		{[]api.Hold{mine}, "4111111111111112", 0, api.OK},
		{[]api.Hold{mine, mine}, card, 140, api.OK},
		{[]api.Hold{mine, theirs}, card, 70, api.OK},
		{[]api.Hold{theirs, mine}, other, 49, api.OK},
		{[]api.Hold{mine, of(200, 0, false)}, card, 70, api.OK},
		{[]api.Hold{of(200, 0, false), of(5, 5, false)}, card, 0, api.OK},
		{[]api.Hold{mine, theirs, of(1, 0, true), of(9, 8, true), theirs}, card, 72, api.OK},
		// One that may not be, whosever it is, and wherever it stands.
		{[]api.Hold{bad}, card, 0, api.ErrArg},
		{[]api.Hold{bad}, other, 0, api.ErrArg},
		{[]api.Hold{worse}, card, 0, api.ErrArg},
		{[]api.Hold{worse}, other, 0, api.ErrArg},
		{[]api.Hold{mine, bad}, card, 0, api.ErrArg},
		{[]api.Hold{bad, mine}, card, 0, api.ErrArg},
		{[]api.Hold{mine, worse, mine}, card, 0, api.ErrArg},
		{[]api.Hold{mine, worse}, "", 0, api.ErrArg},
		{[]api.Hold{{}}, "", 0, api.ErrArg},
		{[]api.Hold{mine, {}}, card, 0, api.ErrArg},
		// Sums about the greatest amount.
		{[]api.Hold{of(most, 0, true)}, card, most, api.OK},
		{[]api.Hold{of(most-1, 0, true), of(1, 0, true)}, card, most, api.OK},
		{[]api.Hold{of(most, 0, true), of(1, 0, true)}, card, 0, api.ErrOver},
		{[]api.Hold{of(1, 0, true), of(most, 0, true)}, card, 0, api.ErrOver},
		{[]api.Hold{of(most, 0, true), of(1, 0, false)}, card, most, api.OK},
		{[]api.Hold{of(most, 0, true), on(of(1, 0, true), other)}, card, most, api.OK},
		{[]api.Hold{of(most, 0, true), on(of(1, 0, true), other)}, other, 1, api.OK},
		{[]api.Hold{of(most, 0, true), of(most, 0, false)}, card, most, api.OK},
		{[]api.Hold{of(most, most-1, true), of(most, most-2, true)}, card, 3, api.OK},
		{[]api.Hold{of(1<<62, 0, true), of(1<<62, 0, true)}, card, 0, api.ErrOver},
		// Where the sum goes around, even to what it was.
		{[]api.Hold{of(1<<62, 0, true), of(1<<62, 0, true), of(1<<62, 0, true), of(1<<62, 0, true)}, card, 0, api.ErrOver},
		{[]api.Hold{of(most, 0, true), of(most, 0, true), of(2, 0, true)}, card, 0, api.ErrOver},
		{[]api.Hold{of(most, 0, true), of(most, 0, true), of(7, 0, true)}, card, 0, api.ErrOver},
		// Which error comes first.
		{[]api.Hold{of(most, 0, true), of(most, 0, true), bad}, card, 0, api.ErrArg},
		{[]api.Hold{of(most, 0, true), of(most, 0, true), worse}, card, 0, api.ErrArg},
		{[]api.Hold{of(most, 0, true), of(most, 0, true), worse}, other, 0, api.ErrArg},
	} {
		got, e := hold.Held(c.l, c.pan)
		if got != c.want || e != c.e {
			t.Errorf("%d: Held(%s, %.20q): %d, %d; want %d, %d", i, shown(c.l), c.pan, got, e, c.want, c.e)
		}
		checkHeld(t, c.l, c.pan)
	}
}

// P14.3: what is held of many, with and without one that may not be.
func TestHeldOfMany(t *testing.T) {
	r, bad := rand.New(rand.NewSource(2)), wrong()
	for range 500 {
		var l []api.Hold
		for range r.Intn(300) {
			h := anyHold(r, []int64{10, 1e13, 1 << 58}[r.Intn(3)])
			h.PAN = []string{card, other, h.PAN}[r.Intn(3)]
			l = append(l, h)
		}
		checkHeld(t, l, card)
		checkHeld(t, l, other)
		checkHeld(t, l, "")
		// Which way round they stand plays no part.
		sum, e := hold.Held(l, card)
		r.Shuffle(len(l), func(i, j int) { l[i], l[j] = l[j], l[i] })
		if got, f := hold.Held(l, card); got != sum || f != e {
			t.Fatalf("Held(%s): %d, %d; the other way round %d, %d", shown(l), got, f, sum, e)
		}
		l = slices.Insert(l, r.Intn(len(l)+1), bad[r.Intn(len(bad))])
		checkHeld(t, l, card)
		checkHeld(t, l, other)
	}
}

// P14.4: texts, written out.
func TestTextWritten(t *testing.T) {
	for _, c := range []struct {
		h    api.Hold
		text string
	}{
		{of(100, 30, true), "0000000000AZ12345641111111111111110000000100o1.00 0.30"},
		{of(100, 30, false), "0000000000AZ12345641111111111111110000000100c1.00 0.30"},
		{of(0, 0, false), "0000000000AZ12345641111111111111110000000100c0.00 0.00"},
		{of(1, 0, true), "0000000000AZ12345641111111111111110000000100o0.01 0.00"},
		{till(of(5, 5, false), 0), "0000000000AZ12345641111111111111110000000000c0.05 0.05"},
		{till(of(12345, 99, true), late), "0000000000AZ12345641111111111111112147483647o123.45 0.99"},
		{of(most, most-1, true), "0000000000AZ12345641111111111111110000000100o92233720368547758.07 92233720368547758.06"},
		{of(most, most, false), "0000000000AZ12345641111111111111110000000100c92233720368547758.07 92233720368547758.07"},
		{api.Hold{RRN: "A1B2C3D4E5F6", Acq: "000000", PAN: other, Approved: 1000, Until: 1234567890, Open: true}, "A1B2C3D4E5F600000055555555555544441234567890o10.00 0.00"},
	} {
		if text, e := hold.Text(c.h); text != c.text || e != api.OK {
			t.Errorf("Text(%s): %q, %d; want %q", told(c.h), text, e, c.text)
		}
		if h, e := hold.Parse(c.text); h != c.h || e != api.OK {
			t.Errorf("Parse(%q): %s, %d; want %s", c.text, told(h), e, told(c.h))
		}
		checkParse(t, c.text)
	}
}

// P14.4: texts of no hold, written out.
func TestParseOfNone(t *testing.T) {
	const at = "0000000000AZ12345641111111111111110000000100"
	for _, s := range []string{
		"", " ", "o", "c", at, at + "o", at + "o ", at + "o1.00", at + "o1.00 ", at + "o 0.30", at + "o1.00  0.30", at + "o1.00 0.30 ", at + "o 1.00 0.30", at + "o1.00 0.30 0.30",
		at + "o1.00\t0.30", at + "o1.00,0.30", at + "o1.000.30", at + "O1.00 0.30", at + "C1.00 0.30", at + "x1.00 0.30", at + " 1.00 0.30", at + "1.00 0.30", at + "oc1.00 0.30", at + "01.00 0.30",
		at + "o01.00 0.30", at + "o1.00 00.30", at + "o+1.00 0.30", at + "o1.00 +0.30", at + "o1.0 0.30", at + "o1 0.30", at + "o100 0.30", at + "o1.00 .30", at + "o1.00 0.3", at + "o1.00 30", at + "o1.00 0.300",
		at + "o1.00 -0.30", at + "o-1.00 0.30", at + "o-1.00 -1.30", at + "c-1.00 -1.00", at + "c0.00 -0.00", at + "c-0.00 0.00", at + "o1_0.00 0.30", at + "o1.00 0.30\n", at + "o1.00 0.30\x00",
		at + "o0x1.00 0.30", at + "o1e2.00 0.30", at + "o1,000.00 0.30", at + "o\u0661.00 0.30",
		// Ones that read as holds that may not be.
		at + "o1.00 1.00", at + "o0.00 0.00", at + "o1.00 1.01", at + "c1.00 1.01", at + "c0.00 0.01", at + "o92233720368547758.07 92233720368547758.07",
		at + "o92233720368547758.08 0.30", at + "c92233720368547758.08 92233720368547758.08", at + "o184467440737095516.17 0.30", at + "o184467440737095517.16 0.30", at + "o1.00 184467440737095516.46", at + "c-92233720368547758.08 0.00",
		"0000000000aZ12345641111111111111110000000100o1.00 0.30", "0000000000A 12345641111111111111110000000100o1.00 0.30", "0000000000AZ12345A41111111111111110000000100o1.00 0.30", "0000000000AZ12345641111111111111120000000100o1.00 0.30",
		"0000000000AZ12345641111111111111112147483648o1.00 0.30", "0000000000AZ12345641111111111111114294967296o1.00 0.30", "0000000000AZ12345641111111111111114294967396o1.00 0.30", "0000000000AZ12345641111111111111119999999999o1.00 0.30",
		"0000000000AZ1234564111111111111111000000010 o1.00 0.30", "0000000000AZ1234564111111111111111       100o1.00 0.30", "0000000000AZ1234564111111111111111+000000100o1.00 0.30", "0000000000AZ1234564111111111111111-000000100o1.00 0.30", "0000000000AZ1234564111111111111111000000010Ao1.00 0.30",
		// Until in another width.
		"0000000000AZ1234564111111111111111100o1.00 0.30", "0000000000AZ1234564111111111111111000000100o1.00 0.30", "0000000000AZ123456411111111111111100000000100o1.00 0.30",
	} {
		if h, e := hold.Parse(s); h != (api.Hold{}) || e != api.ErrForm {
			t.Errorf("Parse(%q): %s, %d", s, told(h), e)
		}
		checkParse(t, s)
	}
}

// P14.4: texts with one octet changed, put in, left out, or cut behind one.
func TestParseOfSpoiltTexts(t *testing.T) {
	for _, h := range []api.Hold{of(100, 30, true), of(100, 30, false), of(0, 0, false), of(most, most-1, true), till(of(123456, 7890, true), late), {RRN: "A1B2C3D4E5F6", Acq: "000000", PAN: other, Approved: 1000, Until: 1234567890, Open: true}} {
		text := texted(h)
		for at := range len(text) {
			for octet := range 256 {
				put := string([]byte{byte(octet)})
				checkParse(t, text[:at]+put+text[at+1:])
				checkParse(t, text[:at]+put+text[at:])
			}
			checkParse(t, text[:at]+text[at+1:])
			checkParse(t, text[:at])
			checkParse(t, text[at:])
			checkParse(t, text[:at]+"\u0661"+text[at:])
		}
		for octet := range 256 {
			checkParse(t, text+string([]byte{byte(octet)}))
		}
		checkParse(t, text+text)
		checkParse(t, text+" "+text)
	}
}

// P14.4: texts put together of parts, right and wrong ones.
func TestParseOfParts(t *testing.T) {
	r := rand.New(rand.NewSource(3))
	parts := [][]string{
		{rrn, rrn, rrn, "ZZZZZZZZZZZZ", "000000000000", "0000000000A", "0000000000AZZ", "0000000000az", ""},
		{acq, acq, acq, "000000", "12345", "1234567", "", "A12345"},
		{card, card, card, other, "4111111111111112", "411111111111111", ""},
		{"0000000100", "0000000100", "0000000000", "2147483647", "2147483648", "9999999999", "100", "00000000100", "-000000100"},
		{"o", "o", "c", "c", "O", "", "oo"},
		{"1.00", "0.00", "0.30", "0.31", "92233720368547758.07", "92233720368547758.08", "-1.00", "1", "01.00", ""},
		{" ", " ", " ", " ", " ", "", "  ", "\n"},
		{"1.00", "0.00", "0.30", "0.31", "92233720368547758.07", "92233720368547758.08", "-0.30", "-0.00", ".30", ""},
		{"", "", "", "", "", " ", "0", "\x00"},
	}
	right := 0
	for range 60000 {
		var s string
		for _, some := range parts {
			s += some[r.Intn(len(some))]
		}
		checkParse(t, s)
		if _, is := read(s); is {
			right++
		}
	}
	if right < 100 {
		t.Errorf("only %d are texts", right)
	}
}

// P14.4: each text is parsed as it was, and no two holds have the same one.
func TestTextsAreParsedAsTheyWere(t *testing.T) {
	r, whose := rand.New(rand.NewSource(4)), map[string]api.Hold{}
	for _, bound := range []int64{1, 5, 1000, 1e13, most} {
		for range 2000 {
			h := anyHold(r, bound)
			text, e := hold.Text(h)
			if e != api.OK {
				t.Fatalf("Text(%s): %d", told(h), e)
			}
			if was, there := whose[text]; there && was != h {
				t.Fatalf("%q is the text of %s and of %s", text, told(was), told(h))
			}
			whose[text] = h
			if got, e := hold.Parse(text); got != h || e != api.OK {
				t.Fatalf("Parse(%q): %s, %d; want %s", text, told(got), e, told(h))
			}
		}
	}
}

// P14.5, P0.5: whatever is done, one thing behind the other, captured is from 0 to what is approved, and what is taken is what is left less.
func TestOneBehindTheOther(t *testing.T) {
	r := rand.New(rand.NewSource(5))
	for range 3000 {
		bound := []int64{3, 100, 1e13, most}[r.Intn(4)]
		h := anyHold(r, bound)
		h.Open, h.Captured = true, 0
		tick, taken := 0, int64(0)
		for range 40 {
			was, left := h, hold.Left(h)
			amount := r.Int63n(bound/5+2) - int64(r.Intn(2))
			if r.Intn(10) == 0 {
				amount = left + int64(r.Intn(3)) - 1
			}
			what := []int{more, more, more, take, take, take, take, less, less, takeLast, undo}[r.Intn(11-2*r.Intn(2))]
			next, e := does(what, h, amount, tick+r.Intn(1000))
			if e == api.OK {
				h = next
			}
			if what == take && e == api.OK {
				taken += amount
				if hold.Left(h) != left-amount || h.Captured != taken || h.Approved != was.Approved || h.Open != (left > amount) {
					t.Fatalf("Take(%s, %d): %s, of %d left, %d taken", told(was), amount, told(h), left, taken)
				}
			}
			if what == takeLast && e == api.OK {
				taken += amount
			}
			tick += r.Intn(100)
			if lapsed, ok := hold.Lapse(h, tick); r.Intn(4) == 0 {
				if ok != (h.Open && tick > h.Until) {
					t.Fatalf("Lapse(%s, %d): %v", told(h), tick, ok)
				}
				h = lapsed
			}
			if h.Captured < 0 || h.Captured > h.Approved || h.Captured != taken || !hold.May(h) || h.Open != (hold.Left(h) > 0) {
				t.Fatalf("%d of %s by %d: %s, %d taken", what, told(was), amount, told(h), taken)
			}
			if hold.Key(h) != was.RRN+was.Acq || h.PAN != was.PAN {
				t.Fatalf("%d of %s: %s", what, told(was), told(h))
			}
			checkHold(t, h)
		}
	}
}

// P14.5: one that is over stays as it is: nothing is left of it, and nothing is done to it.
func TestOneThatIsOver(t *testing.T) {
	over := []api.Hold{}
	for _, h := range right() {
		if !h.Open {
			continue
		}
		left := hold.Left(h)
		all, e := hold.Take(h, left, false)
		last, f := hold.Take(h, 1, true)
		none, g := hold.Less(h, left)
		undone, i := hold.Undo(h)
		lapsed, ok := hold.Lapse(h, h.Until+1)
		if e != api.OK || f != api.OK || g != api.OK || i != api.OK || !ok {
			t.Fatalf("%s: %d %d %d %d %v", told(h), e, f, g, i, ok)
		}
		over = append(over, all, last, none, undone, lapsed)
	}
	for _, h := range over {
		if !hold.May(h) || h.Open || hold.Left(h) != 0 {
			t.Errorf("%s: %d left", told(h), hold.Left(h))
		}
		for what := range behind {
			if got, e := does(what, h, 1, 5); got != (api.Hold{}) || e != api.ErrEnd {
				t.Errorf("%d of %s: %s, %d", what, told(h), told(got), e)
			}
		}
		if sum, e := hold.Held([]api.Hold{h, h}, h.PAN); sum != 0 || e != api.OK {
			t.Errorf("Held(%s): %d, %d", told(h), sum, e)
		}
	}
}

// R4: each call answers the same again, whatever was asked ahead of it.
func TestNothingIsKept(t *testing.T) {
	ask := func() string {
		r := rand.New(rand.NewSource(6))
		var s strings.Builder
		for range 200 {
			h := anyHold(r, 100)
			fmt.Fprintln(&s, hold.Ref(h.RRN), hold.May(h), hold.Key(h), hold.Left(h))
			for what := range behind {
				fmt.Fprintln(&s, fmt.Sprint(does(what, h, r.Int63n(50), r.Intn(50))))
			}
			text, e := hold.Text(h)
			fmt.Fprintln(&s, text, e, fmt.Sprint(hold.Parse(text)), fmt.Sprint(hold.Lapse(h, r.Intn(late))), fmt.Sprint(hold.Held([]api.Hold{h, h}, h.PAN)))
		}
		return s.String()
	}
	if ask() != ask() {
		t.Error("asked again, they answer otherwise")
	}
}

// R1: long texts and lists come to an end.
func TestLong(t *testing.T) {
	const n = 1 << 20
	text := texted(of(100, 30, true))
	for _, octet := range []string{"0", "9", "A", " ", ".", "-", "o", "\x00", "\xff"} {
		long := strings.Repeat(octet, n)
		if hold.Ref(long) {
			t.Errorf("Ref of many times %q", octet)
		}
		for _, h := range []api.Hold{{RRN: long}, {RRN: rrn, Acq: long}, {RRN: rrn, Acq: acq, PAN: long}} {
			h.Approved, h.Open = 5, true
			checkHold(t, h)
			checkDone(t, h, 1, 5)
			checkLapse(t, h, 1)
		}
		for _, s := range []string{long, text + long, text[:46] + long + text[46:], text[:45] + long, text[:45] + "1.00 " + long, long + text, text[:45] + "1." + long + " 0.30"} {
			if h, e := hold.Parse(s); h != (api.Hold{}) || e != api.ErrForm {
				t.Errorf("Parse of a long text of %q: %s, %d", octet, told(h), e)
			}
		}
		if sum, e := hold.Held([]api.Hold{of(100, 30, true)}, long); sum != 0 || e != api.OK {
			t.Errorf("Held on a long card: %d, %d", sum, e)
		}
	}
	l := make([]api.Hold, n/4)
	for i := range l {
		l[i] = of(100, 30, true)
	}
	if sum, e := hold.Held(l, card); sum != 70*n/4 || e != api.OK {
		t.Errorf("Held of many: %d, %d", sum, e)
	}
	for i := range l {
		l[i] = of(most, 0, true)
	}
	if sum, e := hold.Held(l, card); sum != 0 || e != api.ErrOver {
		t.Errorf("Held of many great ones: %d, %d", sum, e)
	}
}
