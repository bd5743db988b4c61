package entry_test

import (
	"fmt"
	"math"
	"math/big"
	"math/rand"
	"reflect"
	"regexp"
	"slices"
	"strconv"
	"strings"
	"testing"

	"bursar/api"
	"bursar/entry"
)

const (
	most  = math.MaxInt64
	least = math.MinInt64
)

// The accounts of the tests. All of them may be.
var (
	house = api.Account{Kind: api.AccHouse}
	claim = api.Account{Kind: api.AccClaim}
	card  = api.Account{Kind: api.AccCard, ID: "4111111111111111"}
	other = api.Account{Kind: api.AccCard, ID: "5555555555554444"}
	none  = api.Account{Kind: api.AccCard, ID: "0000000000000000"}
	shop  = api.Account{Kind: api.AccAcq, ID: "123456"}
	inn   = api.Account{Kind: api.AccAcq, ID: "000000"}
	last  = api.Account{Kind: api.AccAcq, ID: "999999"}
	ninth = api.Account{Kind: api.AccAcq, ID: "000001"}
)

// accounts are nine, one more than an entry has at most.
func accounts() []api.Account {
	return []api.Account{house, claim, card, other, none, shop, inn, last, ninth}
}

// wrong are accounts that may not be.
func wrong() []api.Account {
	return []api.Account{
		{}, {Kind: -1}, {Kind: 0, ID: "123456"}, {Kind: 5}, {Kind: math.MaxInt}, {Kind: math.MinInt}, {Kind: 1<<32 + 3}, {Kind: 3, ID: "1"}, {Kind: 3, ID: " "},
		{Kind: 4, ID: "H"}, {Kind: 4, ID: "\x00"}, {Kind: 1}, {Kind: 1, ID: "4111111111111112"}, {Kind: 1, ID: "411111111111111"}, {Kind: 1, ID: "123456"},
		{Kind: 2}, {Kind: 2, ID: "12345"}, {Kind: 2, ID: "1234567"}, {Kind: 2, ID: "12345x"}, {Kind: 2, ID: "4111111111111111"}, {Kind: 2, ID: strings.Repeat("0", 1<<16)},
	}
}

// made is an entry whose lines are of the tests' accounts, in order.
func made(batch int, ref string, l ...int64) api.Entry {
	x := api.Entry{Batch: batch, Ref: ref}
	for i, amount := range l {
		a := api.Account{Kind: api.AccAcq, ID: fmt.Sprintf("%06d", 500000+i)}
		if i < len(accounts()) {
			a = accounts()[i]
		}
		x.L = append(x.L, api.Line{Account: a, Amount: amount})
	}
	return x
}

// cloned is an entry that has no memory in common with another one.
func cloned(x api.Entry) api.Entry {
	x.L = slices.Clone(x.L)
	return x
}

// same: are two entries the same, where no lines are the same as nil?
func same(x, y api.Entry) bool {
	return x.Batch == y.Batch && x.Ref == y.Ref && slices.Equal(x.L, y.L)
}

// shown is a text's beginning, for what a test tells.
func shown(s string) string { return fmt.Sprintf("%.200q (%d octets)", s, len(s)) }

// whose is an account, for what a test tells.
func whose(a api.Account) string { return fmt.Sprintf("kind %d %.20q", a.Kind, a.ID) }

// told is an entry, for what a test tells.
func told(x api.Entry) string {
	var b strings.Builder
	fmt.Fprintf(&b, "batch %d, ref %.40q, %d lines", x.Batch, x.Ref, len(x.L))
	for _, l := range x.L[:min(len(x.L), 10)] {
		fmt.Fprintf(&b, ", %s %d", whose(l.Account), l.Amount)
	}
	return b.String()
}

// doubles is what each digit counts where it is doubled, reckoned by hand.
var doubles = [10]int{0, 2, 4, 6, 8, 1, 3, 5, 7, 9}

// isPan tells it by chapter 2's and 11's words: 16 sound digits.
func isPan(id string) bool {
	if len(id) != 16 || strings.Trim(id, "0123456789") != "" {
		return false
	}
	sum := 0
	for i := 0; i < 16; i += 2 {
		sum += doubles[id[i]-'0'] + int(id[i+1]-'0')
	}
	return sum%10 == 0
}

var sixDigits = regexp.MustCompile(`\A[0-9]{6}\z`)

// named is an account's name by chapter 11's words, if it may be.
func named(a api.Account) (string, bool) {
	switch {
	case a.Kind == 1 && isPan(a.ID):
		return "C" + a.ID, true
	case a.Kind == 2 && sixDigits.MatchString(a.ID):
		return "A" + a.ID, true
	case a.Kind == 3 && a.ID == "":
		return "H", true
	case a.Kind == 4 && a.ID == "":
		return "D", true
	}
	return "", false
}

// priced is an amount's text by chapter 1's words.
func priced(a int64) string {
	x := big.NewInt(a)
	digits := fmt.Sprintf("%03s", new(big.Int).Abs(x).String())
	text := digits[:len(digits)-2] + "." + digits[len(digits)-2:]
	if x.Sign() < 0 {
		return "-" + text
	}
	return text
}

// judged is what is wrong with an entry by the chapter's words.
func judged(x api.Entry) api.Errno {
	if x.Batch < 0 || x.Batch > 2147483647 || len(x.Ref) > 20 || len(x.L) < 2 || len(x.L) > 8 {
		return api.ErrArg
	}
	for i := range len(x.Ref) {
		if x.Ref[i] < 33 || x.Ref[i] > 126 {
			return api.ErrArg
		}
	}
	sum, times := new(big.Int), map[api.Account]int{}
	for _, l := range x.L {
		times[l.Account]++
		if _, may := named(l.Account); !may || l.Amount == 0 || times[l.Account] > 1 {
			return api.ErrArg
		}
		sum.Add(sum, big.NewInt(l.Amount))
	}
	if !sum.IsInt64() {
		return api.ErrOver
	}
	if sum.Sign() != 0 {
		return api.ErrEven
	}
	return api.OK
}

// written is the text of an entry that may be, by the chapter's words.
func written(x api.Entry) string {
	parts := []string{strconv.Itoa(x.Batch), x.Ref}
	for _, l := range x.L {
		name, _ := named(l.Account)
		parts = append(parts, name+"="+priced(l.Amount))
	}
	return strings.Join(parts, " ")
}

var (
	textForm = regexp.MustCompile(`\A(0|[1-9][0-9]{0,9}) ([!-~]{0,20})((?: (?:C[0-9]{16}|A[0-9]{6}|H|D)=-?(?:0|[1-9][0-9]{0,16})\.[0-9]{2}){2,8})\z`)
	lineForm = regexp.MustCompile(` ([CAHD])([0-9]*)=(-?)([0-9]+)\.([0-9]{2})`)
)

// wordOf is the entry that a text is of by the chapter's words, if it is one's.
func wordOf(s string) (api.Entry, bool) {
	m := textForm.FindStringSubmatch(s)
	if m == nil {
		return api.Entry{}, false
	}
	batch, _ := strconv.ParseInt(m[1], 10, 64)
	x := api.Entry{Batch: int(batch), Ref: m[2]}
	for _, l := range lineForm.FindAllStringSubmatch(m[3], -1) {
		n, _ := new(big.Int).SetString(l[3]+l[4]+l[5], 10)
		if !n.IsInt64() {
			return api.Entry{}, false
		}
		x.L = append(x.L, api.Line{Account: api.Account{Kind: 1 + strings.Index("CAHD", l[1]), ID: l[2]}, Amount: n.Int64()})
	}
	if judged(x) != api.OK {
		return api.Entry{}, false
	}
	return x, true
}

// checkCheck holds Check and Text against the chapter's words.
func checkCheck(t *testing.T, x api.Entry) {
	t.Helper()
	was, e, want := cloned(x), judged(x), ""
	if f := entry.Check(x); f != e {
		t.Fatalf("Check(%s): %d, want %d", told(x), f, e)
	}
	if e == api.OK {
		want = written(x)
	}
	if s, f := entry.Text(x); s != want || f != e {
		t.Fatalf("Text(%s): %s, %d; want %s, %d", told(x), shown(s), f, shown(want), e)
	}
	if !same(x, was) {
		t.Fatalf("changed to %s: %s", told(x), told(was))
	}
}

// checkParse holds Parse against the chapter's words.
func checkParse(t *testing.T, s string) {
	t.Helper()
	e := api.OK
	want, is := wordOf(s)
	if !is {
		e = api.ErrForm
	}
	if x, f := entry.Parse(s); !same(x, want) || f != e {
		t.Fatalf("Parse(%s): %s, %d; want %s, %d", shown(s), told(x), f, told(want), e)
	}
}

// checkBack holds Back against the chapter's words.
func checkBack(t *testing.T, x api.Entry) {
	t.Helper()
	was, e := cloned(x), judged(x)
	want := api.Entry{Batch: x.Batch, Ref: x.Ref}
	for _, l := range x.L {
		if l.Amount == least && e == api.OK {
			e = api.ErrOver
		}
		want.L = append(want.L, api.Line{Account: l.Account, Amount: -l.Amount})
	}
	if e != api.OK {
		want = api.Entry{}
	}
	if back, f := entry.Back(x); !same(back, want) || f != e {
		t.Fatalf("Back(%s): %s, %d; want %s, %d", told(x), told(back), f, told(want), e)
	}
	if !same(x, was) {
		t.Fatalf("changed to %s: %s", told(x), told(was))
	}
}

// checkOn holds On against the chapter's words, on all accounts of the tests.
func checkOn(t *testing.T, x api.Entry) {
	t.Helper()
	was := cloned(x)
	for _, a := range append(append(accounts(), wrong()...), api.Account{Kind: api.AccAcq, ID: "654321"}) {
		want := int64(0)
		if i := slices.IndexFunc(x.L, func(l api.Line) bool { return l.Account == a }); i >= 0 {
			want = x.L[i].Amount
		}
		if got := entry.On(x, a); got != want {
			t.Fatalf("On(%s; %s): %d, want %d", told(x), whose(a), got, want)
		}
	}
	if !same(x, was) {
		t.Fatalf("changed to %s: %s", told(x), told(was))
	}
}

// checkAll holds all that takes an entry against the chapter's words.
func checkAll(t *testing.T, x api.Entry) {
	t.Helper()
	checkCheck(t, x)
	checkBack(t, x)
	checkOn(t, x)
}

// checkMove holds Move against the chapter's words.
func checkMove(t *testing.T, batch int, ref string, from, to api.Account, amount int64) {
	t.Helper()
	want, e := api.Entry{Batch: batch, Ref: ref, L: []api.Line{{Account: from, Amount: -amount}, {Account: to, Amount: amount}}}, api.ErrOver
	if amount != least {
		e = judged(want)
	}
	if e != api.OK {
		want = api.Entry{}
	}
	if x, f := entry.Move(batch, ref, from, to, amount); !same(x, want) || f != e {
		t.Fatalf("Move(%d, %.40q, %s, %s, %d): %s, %d; want %s, %d", batch, ref, whose(from), whose(to), amount, told(x), f, told(want), e)
	}
}

// batches are those at the edges, and far behind them.
func batches() []int {
	return []int{math.MinInt, -1 << 32, math.MinInt32, -2, -1, 0, 1, 7, 10, 999999999, 1000000000, math.MaxInt32 - 1, math.MaxInt32, math.MaxInt32 + 1, math.MaxUint32, 1 << 32, 1<<32 + 1, math.MaxInt}
}

// refs are what entries may be for, or may not.
func refs() []string {
	l := []string{"", "r1", "!", "~", "000000000042", "=", "H=1.00", "D=-1.05", "7", strings.Repeat("a", 19), strings.Repeat("a", 20), strings.Repeat("a", 21), strings.Repeat("~", 20),
		strings.Repeat("!", 20), strings.Repeat("~", 21), strings.Repeat("a", 1<<16), " ", "a b", " a", "a ", "\x00", "a\n", "\x7f", "\x80", "\xff", "é", "日本", "\u0141", "\u0121", "\U00010041", "\xc3", "a\xa9", "\ufffd",
		strings.Repeat("a", 19) + " ", strings.Repeat("a", 20) + " ", strings.Repeat("a", 19) + "\x7f", strings.Repeat("a", 18) + "é", strings.Repeat("é", 10), strings.Repeat("é", 11), strings.Repeat("é", 20)}
	return l
}

// sums are amounts of two to nine lines, even or not, of which some sums on the way are no amounts.
func sums() [][]int64 {
	return [][]int64{
		{105, -105}, {-105, 105}, {1, -1}, {most, -most}, {-most, most}, {api.MaxAmount, -api.MaxAmount}, {api.MaxAmount + 1, -api.MaxAmount - 1},
		{5, -4}, {-5, 4}, {1, 1}, {-1, -1}, {5, 5}, {most, least}, {least, most}, {1, least}, {-1, most}, {most, -1}, {most - 1, 1}, {least + 1, -1},
		{most, 1}, {1, most}, {most, most}, {least, -1}, {-1, least}, {least, least}, {least, -most},
		{5, -3, -2}, {least, most, 1}, {most, least, 1}, {1, most, least}, {most, 1, least}, {-1, least, most}, {least, -1, most}, {least, -1, most, 2}, {most, 1, -most, -1}, {most, most, -most, -most}, {-most, -most, most, most},
		{most, most, 2}, {least, least, 5}, {most, most, 2, 5, -5}, {most, most, least, least, 2}, {least, least, most, most, 2}, {least, 1 << 62, 1 << 62}, {1 << 62, 1 << 62, least}, {1 << 62, 1 << 62, 1 << 62, 1 << 62}, {1 << 62, 1 << 62, 1},
		{-1 << 62, -1 << 62, -1 << 62, -1 << 62}, {-1 << 62, -1 << 62, -1, 1 << 62, 1 << 62, 1}, {most, most, most, most, 4}, {least, least, least, least, 8, -8},
		{1, 2, 3, 4, 5, 6, 7, -28}, {1, 2, 3, 4, 5, 6, 7, -27}, {most, most, most, most, -most, -most, -most, -most}, {least, least, least, least, most, most, most, most}, {most, most, most, most, 1, 1, 1, 1}, {1, 2, 3, 4, 5, 6, 7, 8, -36}, {1, -1, 1, -1, 1, -1, 1, -1}, {1, -1, 1, -1, 1, -1, 1, -1, 1},
	}
}

// rights are entries that may be: with the edges of Batch and Ref, and of two to eight lines.
func rights() []api.Entry {
	l := []api.Entry{
		made(7, "r1", -105, 105), made(0, "", 1, -1), made(math.MaxInt32, strings.Repeat("~", 20), -7, 7), made(10, "!", 100, -100), made(1, "=", 10, -10), made(2, "H=-1.05", 105, -105), made(3, "12", least, most, 1), made(4, "x", most, 1, least),
	}
	for _, s := range sums() {
		if x := made(12, "000000000042", s...); judged(x) == api.OK {
			l = append(l, x)
		}
	}
	for n := 2; n <= 8; n++ {
		l = append(l, atRandom(rand.New(rand.NewSource(int64(n))), n))
	}
	return l
}

// atRandom is an entry of so many lines that may be.
func atRandom(r *rand.Rand, n int) api.Entry {
	for {
		x := api.Entry{Batch: r.Intn(1 << 31 >> r.Intn(31)), Ref: anyRef(r)}
		sum := int64(0)
		for _, i := range r.Perm(len(accounts()))[:n] {
			amount := int64(r.Uint64()) >> (1 + r.Intn(62))
			sum += amount
			x.L = append(x.L, api.Line{Account: accounts()[i], Amount: amount})
		}
		x.L[n-1].Amount -= sum
		if judged(x) == api.OK {
			return x
		}
	}
}

// anyRef is a Ref that may be.
func anyRef(r *rand.Rand) string {
	b := make([]byte, r.Intn(21))
	for i := range b {
		b[i] = byte(33 + r.Intn(94))
	}
	return string(b)
}

func TestExamples(t *testing.T) {
	x, e := entry.Move(7, "r1", house, claim, 105)
	if s, f := entry.Text(x); s != "7 r1 H=-1.05 D=1.05" || e != api.OK || f != api.OK {
		t.Errorf("1: %s, %d, %d", shown(s), e, f)
	}
	if x, e := entry.Move(7, "r1", house, claim, 0); !same(x, api.Entry{}) || e != api.ErrArg {
		t.Errorf("2: %s, %d", told(x), e)
	}
	if e := entry.Check(made(7, "r1", 5, -4)); e != api.ErrEven {
		t.Errorf("3: %d", e)
	}
}

// P12.1: what Check says, written out.
func TestCheckWritten(t *testing.T) {
	twenty := strings.Repeat("a", 20)
	for i, c := range []struct {
		x api.Entry
		e api.Errno
	}{
		{made(7, "r1", 5, -5), api.OK},
		{made(-1, "r1", 5, -5), api.ErrArg},
		{made(0, "r1", 5, -5), api.OK},
		{made(2147483647, "r1", 5, -5), api.OK},
		{made(2147483648, "r1", 5, -5), api.ErrArg},
		{made(7, "", 5, -5), api.OK},
		{made(7, twenty, 5, -5), api.OK},
		{made(7, twenty+"a", 5, -5), api.ErrArg},
		{made(7, "\x20", 5, -5), api.ErrArg},
		{made(7, "\x21", 5, -5), api.OK},
		{made(7, "\x7e", 5, -5), api.OK},
		{made(7, "\x7f", 5, -5), api.ErrArg},
		{made(7, "r1"), api.ErrArg},
		{api.Entry{Batch: 7, Ref: "r1", L: []api.Line{}}, api.ErrArg},
		{api.Entry{}, api.ErrArg},
		{made(7, "r1", 5), api.ErrArg},
		{made(7, "r1", 1, 2, 3, 4, 5, 6, 7, -28), api.OK},
		{made(7, "r1", 1, 2, 3, 4, 5, 6, 7, 8, -36), api.ErrArg},
		{made(7, "r1", 0, 5, -5), api.ErrArg},
		{made(7, "r1", 5, 0, -5), api.ErrArg},
		{made(7, "r1", 5, -5, 0), api.ErrArg},
		{made(7, "r1", 0, 0), api.ErrArg},
		{made(7, "r1", 9999999999999, -9999999999999), api.OK},
		{made(7, "r1", 10000000000000, -10000000000000), api.OK},
		{made(7, "r1", most, -most), api.OK},
		{made(7, "r1", least, most, 1), api.OK},
		{made(7, "r1", least, most), api.ErrEven},
		{made(7, "r1", most, most, -most, -most), api.OK},
		{made(7, "r1", 5, -4), api.ErrEven},
		{made(7, "r1", most, -1), api.ErrEven},
		{made(7, "r1", most, 1), api.ErrOver},
		{made(7, "r1", least, -1), api.ErrOver},
		{made(7, "r1", most, most, 2), api.ErrOver},
		{made(7, "r1", least, least), api.ErrOver},
	} {
		if e := entry.Check(c.x); e != c.e {
			t.Errorf("%d: Check(%s): %d, want %d", i, told(c.x), e, c.e)
		}
		checkAll(t, c.x)
	}
}

// P12.1: each Batch, each Ref, and sums of all kinds.
func TestCheck(t *testing.T) {
	for _, batch := range batches() {
		for _, s := range sums() {
			checkAll(t, made(batch, "r1", s...))
		}
	}
	for _, ref := range refs() {
		for _, s := range sums() {
			checkAll(t, made(7, ref, s...))
		}
	}
	for _, x := range rights() {
		if e := entry.Check(x); e != api.OK {
			t.Errorf("Check(%s): %d", told(x), e)
		}
		checkAll(t, x)
	}
}

// P12.1: each octet that there is, at the first, a middle and the last place of a Ref.
func TestEachOctetOfRef(t *testing.T) {
	for c := range 256 {
		for _, n := range []int{1, 2, 19, 20, 21} {
			for _, i := range []int{0, n / 2, n - 1} {
				b := []byte(strings.Repeat("a", n))
				b[i] = byte(c)
				x := made(7, string(b), -105, 105)
				checkCheck(t, x)
				checkMove(t, 7, string(b), house, claim, 105)
				checkParse(t, "7 "+string(b)+" H=-1.05 D=1.05")
				if may := c >= 33 && c <= 126 && n <= 20; may != (entry.Check(x) == api.OK) {
					t.Errorf("octet %d at %d of %d: %d", c, i, n, entry.Check(x))
				}
			}
		}
	}
}

// P12.1: lines from none to many.
func TestHowManyLines(t *testing.T) {
	for n := range 40 {
		l := make([]int64, n)
		for i := range l {
			l[i] = int64(1 - 2*(i%2))
		}
		if n%2 == 1 && n > 1 {
			l[0] = 2
			l[2] = -1
		}
		x := made(7, "r1", l...)
		want := api.OK
		switch {
		case n < 2 || n > 8:
			want = api.ErrArg
		case n%2 == 1:
			want = judged(x)
		}
		if e := entry.Check(x); e != want {
			t.Errorf("%d lines: %d, want %d", n, e, want)
		}
		checkAll(t, x)
	}
	for n := 2; n <= 8; n++ {
		x := atRandom(rand.New(rand.NewSource(int64(n))), n)
		if e := entry.Check(x); e != api.OK {
			t.Errorf("%d lines: %d", n, e)
		}
		checkAll(t, x)
	}
	checkAll(t, api.Entry{Batch: 1, L: make([]api.Line, 1<<16)})
}

// P12.1: an account that may not be, an amount of 0, and an account that is there twice, at each place of entries of each length.
func TestWrongLines(t *testing.T) {
	for n := 2; n <= 8; n++ {
		right := atRandom(rand.New(rand.NewSource(int64(100+n))), n)
		for i := range n {
			for _, a := range wrong() {
				x := cloned(right)
				x.L[i].Account = a
				if e := entry.Check(x); e != api.ErrArg {
					t.Errorf("Check(%s): %d", told(x), e)
				}
				checkAll(t, x)
			}
			x := cloned(right)
			x.L[i].Amount = 0
			if e := entry.Check(x); e != api.ErrArg {
				t.Errorf("Check(%s): %d", told(x), e)
			}
			checkAll(t, x)
			for j := range n {
				x := cloned(right)
				x.L[i].Account = x.L[j].Account
				if e := entry.Check(x); (e == api.ErrArg) != (i != j) {
					t.Errorf("Check(%s): %d", told(x), e)
				}
				checkAll(t, x)
			}
		}
	}
}

// P12.1: accounts are told from one another by Kind and ID alike.
func TestAccountsAreTold(t *testing.T) {
	x := api.Entry{L: []api.Line{{Account: house, Amount: 5}, {Account: claim, Amount: -5}}}
	if e := entry.Check(x); e != api.OK {
		t.Errorf("H and D: %d", e)
	}
	x.L[0].Account, x.L[1].Account = shop, inn
	if e := entry.Check(x); e != api.OK {
		t.Errorf("two acquirers: %d", e)
	}
	x.L[0].Account, x.L[1].Account = card, other
	if e := entry.Check(x); e != api.OK {
		t.Errorf("two cards: %d", e)
	}
	x.L[0].Account.ID = "55555555" + "55554444"
	if e := entry.Check(x); e != api.ErrArg {
		t.Errorf("a card twice: %d", e)
	}
}

// P12.1: which error comes first.
func TestWhichErrorFirst(t *testing.T) {
	over, uneven := made(7, "r1", most, 1), made(7, "r1", 5, -4)
	for _, x := range []api.Entry{over, uneven} {
		for _, spoil := range []func(*api.Entry){
			func(x *api.Entry) { x.Batch = -1 },
			func(x *api.Entry) { x.Batch = 1 << 31 },
			func(x *api.Entry) { x.Ref = " " },
			func(x *api.Entry) { x.Ref = strings.Repeat("a", 21) },
			func(x *api.Entry) { x.L[1].Account = api.Account{} },
			func(x *api.Entry) { x.L[1].Account = x.L[0].Account },
			func(x *api.Entry) { x.L = append(x.L, api.Line{Account: card}) },
			func(x *api.Entry) { x.L = made(0, "", most, 1, 1, 1, 1, 1, 1, 1, 1).L },
			func(x *api.Entry) { x.L = x.L[:1] },
		} {
			spoilt := cloned(x)
			spoil(&spoilt)
			if e := entry.Check(spoilt); e != api.ErrArg {
				t.Errorf("Check(%s): %d", told(spoilt), e)
			}
			checkAll(t, spoilt)
		}
	}
	// A sum that is no amount is not 0, either; what goes around to 0 is none.
	for _, l := range [][]int64{{most, 1}, {most, most, 2}, {least, least}, {1 << 62, 1 << 62, 1 << 62, 1 << 62}} {
		if e := entry.Check(made(7, "r1", l...)); e != api.ErrOver {
			t.Errorf("Check of %v: %d", l, e)
		}
	}
}

// P12.1: texts, written out.
func TestTextAndParseWritten(t *testing.T) {
	for s, x := range map[string]api.Entry{
		"7 r1 H=-1.05 D=1.05":                            made(7, "r1", -105, 105),
		"0  H=0.01 D=-0.01":                              made(0, "", 1, -1),
		"2147483647 ~~~~~~~~~~~~~~~~~~~~ H=-0.07 D=0.07": made(math.MaxInt32, strings.Repeat("~", 20), -7, 7),
		"10 ! H=1.00 D=-1.00":                            made(10, "!", 100, -100),
		"1 H=1.00 H=1.00 D=-1.00":                        made(1, "H=1.00", 100, -100),
		"5 = H=0.10 D=-0.10":                             made(5, "=", 10, -10),
		"3 12 H=-92233720368547758.08 D=92233720368547758.07 C4111111111111111=0.01":                                                      made(3, "12", least, most, 1),
		"12 42 A123456=-6.00 C4111111111111111=6.00":                                                                                      {Batch: 12, Ref: "42", L: []api.Line{{Account: shop, Amount: -600}, {Account: card, Amount: 600}}},
		"7 r1 H=0.01 D=0.02 C4111111111111111=0.03 C5555555555554444=0.04 C0000000000000000=0.05 A123456=0.06 A000000=0.07 A999999=-0.28": made(7, "r1", 1, 2, 3, 4, 5, 6, 7, -28),
	} {
		if got, e := entry.Text(x); got != s || e != api.OK {
			t.Errorf("Text(%s): %s, %d; want %s", told(x), shown(got), e, shown(s))
		}
		if got, e := entry.Parse(s); !same(got, x) || e != api.OK {
			t.Errorf("Parse(%s): %s, %d; want %s", shown(s), told(got), e, told(x))
		}
	}
}

// P12.1: texts of no entries, written out.
func TestParseWrong(t *testing.T) {
	ninth := " A000001=0.08"
	for _, s := range []string{
		"", " ", "  ", "7", "7 ", "7 r1", "7 r1 ", "7 r1 H=-1.05", "7 r1 H=-1.05 ", " 7 r1 H=-1.05 D=1.05", "7 r1 H=-1.05 D=1.05 ", "7 r1 H=-1.05 D=1.05\n", "7 r1 H=-1.05 D=1.05\x00", "7 r1 H=-1.05 D=1.05x",
		"7 r1  H=-1.05 D=1.05", "7 r1 H=-1.05  D=1.05", "7  r1 H=-1.05 D=1.05", "7 H=-1.05 D=1.05", "r1 H=-1.05 D=1.05", " r1 H=-1.05 D=1.05", "7\tr1\tH=-1.05\tD=1.05", "7 r1\nH=-1.05\nD=1.05",
		"07 r1 H=-1.05 D=1.05", "00 r1 H=-1.05 D=1.05", "+7 r1 H=-1.05 D=1.05", "-7 r1 H=-1.05 D=1.05", "-1 r1 H=-1.05 D=1.05", "-0 r1 H=-1.05 D=1.05", "7.0 r1 H=-1.05 D=1.05", "0x7 r1 H=-1.05 D=1.05", "7_0 r1 H=-1.05 D=1.05", "1e2 r1 H=-1.05 D=1.05", "٧ r1 H=-1.05 D=1.05", "７ r1 H=-1.05 D=1.05",
		"2147483648 r1 H=-1.05 D=1.05", "4294967296 r1 H=-1.05 D=1.05", "4294967303 r1 H=-1.05 D=1.05", "9223372036854775807 r1 H=-1.05 D=1.05", "18446744073709551623 r1 H=-1.05 D=1.05", strings.Repeat("9", 1000) + " r1 H=-1.05 D=1.05", strings.Repeat("0", 1000) + "7 r1 H=-1.05 D=1.05",
		"7 " + strings.Repeat("a", 21) + " H=-1.05 D=1.05", "7 \x7f H=-1.05 D=1.05", "7 é H=-1.05 D=1.05", "7 \xff H=-1.05 D=1.05",
		"7 r1 H=-1.05 D=1.04", "7 r1 H=-1.05 D=-1.05", "7 r1 H=-1.05 D=1.06", "7 r1 H=0.00 D=0.00", "7 r1 H=-1.05 D=1.05 A123456=0.00", "7 r1 H=-0.00 D=0.00", "7 r1 H=92233720368547758.07 D=0.01", "7 r1 H=92233720368547758.07 D=92233720368547758.07 A123456=0.02",
		"7 r1 H=-1.05 H=1.05", "7 r1 H=-1.05 D=1.05 H=-1.05 D=1.05", "7 r1 A123456=1.00 H=-2.00 A123456=1.00", "7 r1 H=-1.05 D=1.05 A12345=1.00 A123456=-1.00", "7 r1 H=-1.05 C4111111111111112=1.05", "7 r1 H=-1.05 X=1.05", "7 r1 H=-1.05 =1.05", "7 r1 H=-1.05 d=1.05", "7 r1 H0=-1.05 D=1.05",
		"7 r1 H=-1.05 D", "7 r1 H=-1.05 D=", "7 r1 H=-1.05 D1.05", "7 r1 H=-1.05 D==1.05", "7 r1 H=-1.05 D=1.05=", "7 r1 H=-1.05 D=1.05=1.05", "7 r1 H=-1.05 D:1.05", "7 r1 H=-1.05,D=1.05",
		"7 r1 H=-1.05 D=01.05", "7 r1 H=-01.05 D=1.05", "7 r1 H=-1.05 D=+1.05", "7 r1 H=--1.05 D=1.05", "7 r1 H=-1.05 D=1.050", "7 r1 H=-1.05 D=105", "7 r1 H=-.05 D=.05", "7 r1 H=-1.5 D=1.5", "7 r1 H=-1,05 D=1,05", "7 r1 H=-92233720368547758.09 D=92233720368547758.09", "7 r1 H=-99999999999999999999.00 D=99999999999999999999.00",
		"7 r1 H=0.01 D=0.02 C4111111111111111=0.03 C5555555555554444=0.04 C0000000000000000=0.05 A123456=0.06 A000000=0.07 A999999=-0.36" + ninth,
		"7 r1 H=0.01 D=0.02 C4111111111111111=0.03 C5555555555554444=0.04 C0000000000000000=0.05 A123456=0.06 A000000=0.07 A999999=-0.28 ",
		"7 r1 H=0.01 D=0.02 C4111111111111111=0.03 C5555555555554444=0.04 C0000000000000000=0.05 A123456=0.06 A000000=0.07 A999999=-0.28  ",
	} {
		if x, e := entry.Parse(s); !same(x, api.Entry{}) || x.L != nil || e != api.ErrForm {
			t.Errorf("Parse(%s): %s, %d", shown(s), told(x), e)
		}
		checkParse(t, s)
	}
}

// P12.1: texts with each octet that there is changed, put in or left out, at each place, cut short, and with more behind.
func TestParseOfTextsThatWereChanged(t *testing.T) {
	for _, x := range []api.Entry{made(7, "r1", -105, 105), made(0, "", 10, -11, 1), made(math.MaxInt32, "H=1.00", least, most, 1), {Batch: 10, Ref: "~!", L: []api.Line{{Account: shop, Amount: -100000}, {Account: card, Amount: 100000}}}} {
		s := written(x)
		for i := range len(s) + 1 {
			for c := range 256 {
				octet := string([]byte{byte(c)})
				checkParse(t, s[:i]+octet+s[i:])
				if i < len(s) {
					checkParse(t, s[:i]+octet+s[i+1:])
				}
			}
			checkParse(t, s[:i])
			checkParse(t, s[i:])
			checkParse(t, s+s[i:])
			if i < len(s) {
				checkParse(t, s[:i]+s[i+1:])
			}
		}
	}
}

// P12.1: parts of texts put together, of which some come to texts of entries.
func TestParseOfParts(t *testing.T) {
	r, right := rand.New(rand.NewSource(3)), 0
	heads := []string{"0", "7", "07", "2147483647", "2147483648", "-1", "+1", "x", ""}
	names := []string{"H", "D", "A123456", "C4111111111111111", "A12345", "X", ""}
	amounts := []string{"1.00", "-1.00", "0.50", "-0.50", "0.00", "-2.00", "2.00", "1", "+1.00", "92233720368547758.07", "-92233720368547758.07", "-92233720368547758.08", ""}
	often := func(l []string) string {
		// Mostly of the first four, so that some are right.
		if r.Intn(12) > 0 {
			return l[r.Intn(4)]
		}
		return l[r.Intn(len(l))]
	}
	for range 60000 {
		parts := []string{often(heads), refs()[r.Intn(11)]}
		for range 1 + r.Intn(4) {
			parts = append(parts, often(names)+"="+often(amounts))
		}
		s := strings.Join(parts, " ")
		checkParse(t, s)
		if _, is := wordOf(s); is {
			right++
		}
	}
	if right < 1000 {
		t.Errorf("only %d of them were texts of entries", right)
	}
}

// P12.1: lines in another order are another entry, with a text of its own.
func TestLinesInAnotherOrder(t *testing.T) {
	x := made(7, "r1", -600, 500, 100)
	turned := cloned(x)
	slices.Reverse(turned.L)
	s, _ := entry.Text(x)
	turn, e := entry.Text(turned)
	if turn != "7 r1 C4111111111111111=1.00 D=5.00 H=-6.00" || s == turn || e != api.OK {
		t.Errorf("%s, and %s, %d", shown(s), shown(turn), e)
	}
	if got, e := entry.Parse(turn); !same(got, turned) || same(got, x) || e != api.OK {
		t.Errorf("Parse(%s): %s, %d", shown(turn), told(got), e)
	}
}

// P12.1: each text is parsed as it was, and what is parsed has that text.
func TestTextsAndBack(t *testing.T) {
	r, l := rand.New(rand.NewSource(4)), rights()
	for range 3000 {
		l = append(l, atRandom(r, 2+r.Intn(7)))
	}
	for _, x := range l {
		s, e := entry.Text(x)
		if e != api.OK || s != written(x) {
			t.Fatalf("Text(%s): %s, %d", told(x), shown(s), e)
		}
		got, e := entry.Parse(s)
		if !same(got, x) || e != api.OK {
			t.Fatalf("Parse(%s): %s, %d", shown(s), told(got), e)
		}
		checkParse(t, s)
	}
}

// P12.2: Move, written out.
func TestMoveWritten(t *testing.T) {
	for _, c := range []struct {
		batch    int
		ref      string
		from, to api.Account
		amount   int64
		s        string
		e        api.Errno
	}{
		{7, "r1", house, claim, 105, "7 r1 H=-1.05 D=1.05", api.OK},
		{7, "r1", house, claim, -105, "7 r1 H=1.05 D=-1.05", api.OK},
		{0, "", card, shop, 1, "0  C4111111111111111=-0.01 A123456=0.01", api.OK},
		{7, "r1", house, claim, 0, "", api.ErrArg},
		{7, "r1", house, claim, api.MaxAmount, "7 r1 H=-99999999999.99 D=99999999999.99", api.OK},
		{7, "r1", house, claim, api.MaxAmount + 1, "7 r1 H=-100000000000.00 D=100000000000.00", api.OK},
		{7, "r1", house, claim, most, "7 r1 H=-92233720368547758.07 D=92233720368547758.07", api.OK},
		{7, "r1", house, claim, -most, "7 r1 H=92233720368547758.07 D=-92233720368547758.07", api.OK},
		{7, "r1", house, claim, least, "", api.ErrOver},
		{7, "r1", house, house, 105, "", api.ErrArg},
		{7, "r1", card, card, 105, "", api.ErrArg},
		{7, "r1", card, card, 0, "", api.ErrArg},
		{-1, "r1", house, claim, 105, "", api.ErrArg},
		{math.MaxInt32, "r1", house, claim, 105, "2147483647 r1 H=-1.05 D=1.05", api.OK},
		{math.MaxInt32 + 1, "r1", house, claim, 105, "", api.ErrArg},
		{7, strings.Repeat("a", 20), house, claim, 105, "7 aaaaaaaaaaaaaaaaaaaa H=-1.05 D=1.05", api.OK},
		{7, strings.Repeat("a", 21), house, claim, 105, "", api.ErrArg},
		{7, " ", house, claim, 105, "", api.ErrArg},
		{7, "r1", api.Account{}, claim, 105, "", api.ErrArg},
		{7, "r1", house, api.Account{Kind: 5}, 105, "", api.ErrArg},
		// Of what is no amount ErrOver is told ahead of all else.
		{-1, " ", house, house, least, "", api.ErrOver},
		{7, "r1", api.Account{}, api.Account{}, least, "", api.ErrOver},
	} {
		x, e := entry.Move(c.batch, c.ref, c.from, c.to, c.amount)
		s, _ := entry.Text(x)
		if s != c.s || e != c.e || e != api.OK && !reflect.ValueOf(x).IsZero() {
			t.Errorf("Move(%d, %q, %s, %s, %d): %s, %s, %d; want %s, %d", c.batch, c.ref, whose(c.from), whose(c.to), c.amount, told(x), shown(s), e, shown(c.s), c.e)
		}
		checkMove(t, c.batch, c.ref, c.from, c.to, c.amount)
	}
}

// P12.2: Move of all edges.
func TestMove(t *testing.T) {
	amounts := []int64{least, least + 1, -1 << 32, -api.MaxAmount - 1, -api.MaxAmount, -105, -1, 0, 1, 2, 105, 1 << 31, api.MaxAmount - 1, api.MaxAmount, api.MaxAmount + 1, 1 << 62, most - 1, most}
	all := append(accounts(), wrong()...)
	for _, amount := range amounts {
		for _, from := range all {
			for _, to := range all {
				checkMove(t, 7, "r1", from, to, amount)
			}
		}
		for _, batch := range batches() {
			checkMove(t, batch, "", card, shop, amount)
		}
		for _, ref := range refs() {
			checkMove(t, 7, ref, shop, house, amount)
		}
	}
}

// P12.2: Back, written out.
func TestBackWritten(t *testing.T) {
	back, e := entry.Back(made(7, "r1", -105, 100, 5))
	if s, f := entry.Text(back); s != "7 r1 H=1.05 D=-1.00 C4111111111111111=-0.05" || e != api.OK || f != api.OK {
		t.Errorf("%s, %d, %d", shown(s), e, f)
	}
	for i, c := range []struct {
		x api.Entry
		e api.Errno
	}{
		{api.Entry{}, api.ErrArg},
		{made(-1, "r1", 5, -5), api.ErrArg},
		{made(7, "r1", 5, 0, -5), api.ErrArg},
		{made(7, "r1", 5, -4), api.ErrEven},
		{made(7, "r1", most, 1), api.ErrOver},
		{made(7, "r1", least, most, 1), api.ErrOver},
		{made(7, "r1", 1, least, most), api.ErrOver},
		{made(7, "r1", most, 1, least), api.ErrOver},
		// What is wrong with the entry comes first.
		{made(-1, "r1", least, most, 1), api.ErrArg},
		{made(7, "r1", least, most), api.ErrEven},
	} {
		if back, e := entry.Back(c.x); e != c.e || !reflect.ValueOf(back).IsZero() {
			t.Errorf("%d: Back(%s): %s, %d; want %d", i, told(c.x), told(back), e, c.e)
		}
		checkBack(t, c.x)
	}
}

// P12.2: On, written out.
func TestOnWritten(t *testing.T) {
	x := made(7, "r1", -105, 100, 5)
	for _, c := range []struct {
		a      api.Account
		amount int64
	}{
		{house, -105}, {claim, 100}, {card, 5}, {other, 0}, {shop, 0}, {api.Account{}, 0}, {api.Account{Kind: 3, ID: "1"}, 0}, {api.Account{Kind: 1}, 0}, {api.Account{Kind: 2, ID: "4111111111111111"}, 0},
	} {
		if got := entry.On(x, c.a); got != c.amount {
			t.Errorf("On %s: %d, want %d", whose(c.a), got, c.amount)
		}
		if got := entry.On(api.Entry{}, c.a); got != 0 {
			t.Errorf("On %s of no lines: %d", whose(c.a), got)
		}
	}
	for i, a := range accounts()[:8] {
		if got := entry.On(made(7, "r1", 1, 2, 3, 4, 5, 6, 7, -28), a); got != []int64{1, 2, 3, 4, 5, 6, 7, -28}[i] {
			t.Errorf("On line %d: %d", i, got)
		}
	}
	if got := entry.On(made(7, "r1", least, most, 1), house); got != least {
		t.Errorf("On the least amount: %d", got)
	}
}

// P12.3: what comes to nothing does so the other way round, and there and back is nothing on each account.
func TestThereAndBack(t *testing.T) {
	r, l := rand.New(rand.NewSource(5)), rights()
	for range 3000 {
		l = append(l, atRandom(r, 2+r.Intn(7)))
	}
	for _, x := range l {
		back, e := entry.Back(x)
		if e == api.ErrOver && slices.ContainsFunc(x.L, func(l api.Line) bool { return l.Amount == least }) {
			continue
		}
		if e != api.OK || entry.Check(back) != api.OK || back.Batch != x.Batch || back.Ref != x.Ref {
			t.Fatalf("Back(%s): %s, %d, %d", told(x), told(back), e, entry.Check(back))
		}
		sum := new(big.Int)
		for _, a := range accounts() {
			there, again := entry.On(x, a), entry.On(back, a)
			sum.Add(sum, big.NewInt(again))
			if there+again != 0 {
				t.Fatalf("On(%s; %s): %d there, %d back", told(x), whose(a), there, again)
			}
		}
		if sum.Sign() != 0 {
			t.Fatalf("Back(%s) comes to %v", told(x), sum)
		}
		if twice, e := entry.Back(back); !same(twice, x) || e != api.OK {
			t.Fatalf("there and back and there: %s, %d; want %s", told(twice), e, told(x))
		}
	}
}

// P12.3: a move and the one the other way are each other's other way round, but for the order of lines.
func TestMoveAndBack(t *testing.T) {
	for _, amount := range []int64{1, 105, -105, api.MaxAmount, most, -most} {
		x, e := entry.Move(7, "r1", card, shop, amount)
		back, f := entry.Back(x)
		y, g := entry.Move(7, "r1", card, shop, -amount)
		z, h := entry.Move(7, "r1", shop, card, amount)
		slices.Reverse(z.L)
		if e != api.OK || f != api.OK || g != api.OK || h != api.OK || !same(back, y) || !same(back, z) {
			t.Errorf("%d: %s; %s; %s", amount, told(back), told(y), told(z))
		}
		if entry.On(x, card) != -amount || entry.On(x, shop) != amount || entry.On(back, card) != amount || entry.On(x, house) != 0 {
			t.Errorf("%d: %d, %d", amount, entry.On(x, card), entry.On(x, shop))
		}
	}
}

// R3: what is answered is new memory, and what was handed in may be changed behind the call.
func TestAnswersAreTheirOwn(t *testing.T) {
	x := made(7, "r1", -105, 105)
	spare := append(make([]api.Line, 0, 20), x.L...)
	x.L = spare
	back, _ := entry.Back(x)
	want := cloned(back)
	x.L[0].Amount, x.L[1].Account = 9, card
	if !same(back, want) {
		t.Errorf("changed behind the call: %s", told(back))
	}
	back.L[0].Amount = 3
	back.L = append(back.L, api.Line{Account: other, Amount: 1})
	if x.L[0].Amount != 9 || spare[:3][2] != (api.Line{}) {
		t.Errorf("what is answered is what was handed in: %s", told(x))
	}
	one, _ := entry.Parse("7 r1 H=-1.05 D=1.05")
	one.L[0].Amount = 1
	two, _ := entry.Move(7, "r1", house, claim, 105)
	two.L[0].Amount = 1
	for range 2 {
		if again, _ := entry.Parse("7 r1 H=-1.05 D=1.05"); !same(again, made(7, "r1", -105, 105)) {
			t.Errorf("Parse again: %s", told(again))
		}
		if again, _ := entry.Move(7, "r1", house, claim, 105); !same(again, made(7, "r1", -105, 105)) {
			t.Errorf("Move again: %s", told(again))
		}
	}
}

// R4: each call answers the same again, whatever was asked ahead of it.
func TestNothingIsKept(t *testing.T) {
	l := rights()
	for _, s := range sums() {
		l = append(l, made(3, "s", s...))
	}
	ask := func() string {
		var b strings.Builder
		for _, x := range l {
			s, e := entry.Text(x)
			parsed, f := entry.Parse(s)
			back, g := entry.Back(x)
			moved, h := entry.Move(x.Batch, x.Ref, house, card, entry.On(x, house))
			fmt.Fprintln(&b, entry.Check(x), s, e, parsed, f, back, g, moved, h, entry.On(x, claim))
		}
		return b.String()
	}
	if ask() != ask() {
		t.Error("asked again, they answer otherwise")
	}
}

// R1: long texts, long lists, and any octets, come to an end.
func TestLong(t *testing.T) {
	const n = 1 << 22
	for _, c := range []string{" ", "0", "7", "H", "=", "-", ".", "a", " H=0.01", "\x00", "\xff", "é", "H=1.00 "} {
		long := strings.Repeat(c, n/len(c))
		for _, s := range []string{long, "7 " + long, "7 r1 " + long, "7 r1 H=-1.05 D=1.05" + long, "7 r1 H=-1.05 D=1.05 " + long, long + " r1 H=-1.05 D=1.05", "7 " + long + " H=-1.05 D=1.05", "7 r1 " + long + "=-1.05 D=1.05", "7 r1 H=-" + long + " D=1.05"} {
			if x, e := entry.Parse(s); !same(x, api.Entry{}) || e != api.ErrForm {
				t.Errorf("Parse(%s): %s, %d", shown(s), told(x), e)
			}
		}
		checkCheck(t, made(7, long, 5, -5))
		checkMove(t, 7, long, house, claim, 5)
		checkMove(t, 7, "r1", api.Account{Kind: 1, ID: long}, api.Account{Kind: 2, ID: long}, 5)
	}
	lines := make([]api.Line, 1<<20)
	for i := range lines {
		lines[i] = api.Line{Account: shop, Amount: most}
	}
	x := api.Entry{Batch: 1, L: lines}
	if e := entry.Check(x); e != api.ErrArg {
		t.Errorf("Check of %d lines: %d", len(lines), e)
	}
	if got := entry.On(x, house); got != 0 {
		t.Errorf("On of %d lines: %d", len(lines), got)
	}
}
