package chart_test

import (
	"fmt"
	"math"
	"math/rand"
	"regexp"
	"slices"
	"strings"
	"testing"

	"bursar/api"
	"bursar/chart"
)

// The cards of the tests, in order: all of 16 sound digits.
var pans = []string{"0000000000000000", "0000000000000018", "4111111111111111", "4222222222222220", "5555555555554444", "9999999999999995"}

// The acquirers of the tests, in order.
var acquirers = []string{"000000", "000001", "099999", "123456", "999998", "999999"}

// shown is a text's beginning, for what a test tells.
func shown(s string) string { return fmt.Sprintf("%.30q (%d octets)", s, len(s)) }

// told is an account, for what a test tells.
func told(a api.Account) string { return fmt.Sprintf("kind %d, ID %s", a.Kind, shown(a.ID)) }

// doubles is what each digit counts where it is doubled, reckoned by hand.
var doubles = [10]int{0, 2, 4, 6, 8, 1, 3, 5, 7, 9}

// isPan tells it by the chapter's words: 16 sound digits.
func isPan(id string) bool {
	if len(id) != 16 || strings.Trim(id, "0123456789") != "" {
		return false
	}
	sum := 0
	for i := 0; i < 16; i += 2 {
		sum += doubles[id[i]-'0'] + int(id[i+1]-'0')
	}
	return sum%10 == 0
}

var sixDigits = regexp.MustCompile(`\A[0-9]{6}\z`)

// named is an account's name by the chapter's words, if it may be.
func named(a api.Account) (string, bool) {
	switch {
	case a.Kind == 1 && isPan(a.ID):
		return "C" + a.ID, true
	case a.Kind == 2 && sixDigits.MatchString(a.ID):
		return "A" + a.ID, true
	case a.Kind == 3 && a.ID == "":
		return "H", true
	case a.Kind == 4 && a.ID == "":
		return "D", true
	}
	return "", false
}

// ordered is which of two accounts comes first by the chapter's words.
func ordered(a, b api.Account) int {
	x, may := named(a)
	y, too := named(b)
	switch {
	case may && too:
		return strings.Compare(x, y)
	case a.Kind < b.Kind:
		return -1
	case a.Kind > b.Kind:
		return 1
	}
	return strings.Compare(a.ID, b.ID)
}

// someOf are accounts that may be, of each kind.
func someOf() []api.Account {
	l := []api.Account{{Kind: api.AccHouse}, {Kind: api.AccClaim}}
	for _, pan := range pans {
		l = append(l, api.Account{Kind: api.AccCard, ID: pan})
	}
	for _, id := range acquirers {
		l = append(l, api.Account{Kind: api.AccAcq, ID: id})
	}
	return l
}

// kinds are those that there are, those beside them, and those far off.
func kinds() []int {
	return []int{math.MinInt, math.MinInt32, -4, -3, -2, -1, 0, 1, 2, 3, 4, 5, 6, 7, 255, 256, 257, 258, 259, 260, 1<<32 + 1, 1<<32 + 2, 1<<32 + 3, math.MaxInt32, math.MaxInt}
}

// changed are a text, and what it is with one octet changed, put in or left out, at each place.
func changed(s, octets string) []string {
	l := []string{s}
	for i := range len(s) + 1 {
		for c := range len(octets) {
			l = append(l, s[:i]+octets[c:c+1]+s[i:])
			if i < len(s) {
				l = append(l, s[:i]+octets[c:c+1]+s[i+1:])
			}
		}
		if i < len(s) {
			l = append(l, s[:i]+s[i+1:])
		}
	}
	return l
}

// odd are octets that are no digits, and some that are, and letters that names begin with.
const odd = "059/:.- +ACHDachd\x00\n\x7f\x80\xb0\xff"

// ids are IDs of all kinds of wrongs, and some that are right.
func ids() []string {
	l := []string{"", "0", "00", "18", "12345", "1234567", "79927398713", "411111111111111", "41111111111111111", "4111111111111112", "1411111111111111",
		"00000000000000", "000000000000000", "00000000000000000", "378282246310005", "41111111111111110", "4111111111111111118",
		"4111 1111 1111 1111", "4111-1111-1111-1111", "12 456", "-12345", "+12345", "1234.5", "0x1234", "1e5000", "12345\x00", "\x00\x00\x00\x00\x00\x00",
		"١٢٣", "１２", "١٢٣٤٥٦", "１２３４５６", "١١١١١١١١", "é12345", "H", "D", "C", "A", "HH", strings.Repeat("\xff", 6), strings.Repeat("\xff", 16), strings.Repeat("0", 1<<16)}
	for _, id := range append(slices.Clone(pans), acquirers...) {
		l = append(l, id, "C"+id, "A"+id, id+" ", " "+id, id+"\n", id+"\x00", id+id)
	}
	return append(append(l, changed("4111111111111111", odd)...), changed("123456", odd)...)
}

// mixed are accounts that may be, and ones that may not, of each kind.
func mixed() []api.Account {
	l := someOf()
	for _, kind := range kinds() {
		for _, id := range []string{"", "0", "123456", "12345a", "1234567", "4111111111111111", "4111111111111112", "411111111111111", "\x00", "\xff"} {
			l = append(l, api.Account{Kind: kind, ID: id})
		}
	}
	return l
}

func checkMay(t *testing.T, a api.Account) {
	t.Helper()
	name, may := named(a)
	if chart.May(a) != may {
		t.Errorf("May(%s): %v", told(a), !may)
	}
	e := api.OK
	if !may {
		e = api.ErrArg
	}
	if s, f := chart.Name(a); s != name || f != e {
		t.Errorf("Name(%s): %s, %d; want %s, %d", told(a), shown(s), f, shown(name), e)
	}
}

func checkParse(t *testing.T, s string) {
	t.Helper()
	// By its first octet: a text has one account at most whose name it may be.
	want, e := api.Account{}, api.ErrForm
	for kind, letter := range map[int]string{1: "C", 2: "A", 3: "H", 4: "D"} {
		if strings.HasPrefix(s, letter) {
			a := api.Account{Kind: kind, ID: s[1:]}
			if _, may := named(a); may {
				want, e = a, api.OK
			}
		}
	}
	if a, f := chart.Parse(s); a != want || f != e {
		t.Errorf("Parse(%s): %s, %d; want %s, %d", shown(s), told(a), f, told(want), e)
	}
}

func checkMade(t *testing.T, id string) {
	t.Helper()
	for _, c := range []struct {
		name string
		kind int
		make func(string) (api.Account, api.Errno)
	}{{"Card", 1, chart.Card}, {"Acquirer", 2, chart.Acquirer}} {
		want, e := api.Account{Kind: c.kind, ID: id}, api.OK
		if _, may := named(want); !may {
			want, e = api.Account{}, api.ErrForm
		}
		if a, f := c.make(id); a != want || f != e {
			t.Errorf("%s(%s): %s, %d; want %s, %d", c.name, shown(id), told(a), f, told(want), e)
		}
	}
}

func checkOrder(t *testing.T, a, b api.Account) {
	t.Helper()
	if got, want := chart.Order(a, b), ordered(a, b); got != want {
		t.Errorf("Order(%s; %s): %d, want %d", told(a), told(b), got, want)
	}
}

func TestExamples(t *testing.T) {
	if s, e := chart.Name(api.Account{Kind: api.AccCard, ID: "4111111111111111"}); s != "C4111111111111111" || e != api.OK {
		t.Errorf("1: %q, %d", s, e)
	}
	if a, e := chart.Parse("A12345"); a != (api.Account{}) || e != api.ErrForm {
		t.Errorf("2: %v, %d", a, e)
	}
	if a, e := chart.Parse("H"); a != (api.Account{Kind: api.AccHouse}) || e != api.OK {
		t.Errorf("3: %v, %d", a, e)
	}
}

// P11.1: which accounts may be, written out.
func TestMayWritten(t *testing.T) {
	for _, c := range []struct {
		kind int
		id   string
		may  bool
	}{
		{1, "4111111111111111", true}, {1, "0000000000000000", true}, {1, "5555555555554444", true}, {1, "0000000000000018", true},
		{1, "4111111111111112", false}, {1, "1411111111111111", false}, {1, "411111111111111", false}, {1, "378282246310005", false},
		{1, "41111111111111111", false}, {1, "00000000000000000", false}, {1, "000000000000000", false}, {1, "", false},
		{1, "411111111111111x", false}, {1, "x111111111111111", false}, {1, "4111111 11111111", false}, {1, "123456", false},
		{2, "123456", true}, {2, "000000", true}, {2, "999999", true}, {2, "123455", true},
		{2, "12345", false}, {2, "1234567", false}, {2, "", false}, {2, "12345a", false}, {2, "a23456", false}, {2, "123 56", false},
		{2, "-12345", false}, {2, "4111111111111111", false},
		{3, "", true}, {3, "0", false}, {3, "123456", false}, {3, "4111111111111111", false}, {3, " ", false}, {3, "\x00", false},
		{4, "", true}, {4, "0", false}, {4, "123456", false}, {4, "4111111111111111", false}, {4, " ", false}, {4, "\x00", false},
		{0, "", false}, {0, "123456", false}, {0, "4111111111111111", false}, {5, "", false}, {5, "123456", false}, {5, "4111111111111111", false},
		{-1, "", false}, {math.MaxInt, "", false}, {math.MinInt, "", false}, {1<<32 + 3, "", false}, {256 + 4, "", false},
	} {
		a := api.Account{Kind: c.kind, ID: c.id}
		if chart.May(a) != c.may {
			t.Errorf("May(%s): %v", told(a), !c.may)
		}
		checkMay(t, a)
	}
}

// P11.1: all kinds, with all IDs.
func TestMayAndName(t *testing.T) {
	for _, kind := range kinds() {
		for _, id := range ids() {
			checkMay(t, api.Account{Kind: kind, ID: id})
		}
	}
}

// P11.1: the names of the four kinds, written out.
func TestNameWritten(t *testing.T) {
	for name, a := range map[string]api.Account{
		"C4111111111111111": {Kind: api.AccCard, ID: "4111111111111111"}, "C0000000000000000": {Kind: api.AccCard, ID: "0000000000000000"},
		"A123456": {Kind: api.AccAcq, ID: "123456"}, "A000000": {Kind: api.AccAcq, ID: "000000"},
		"H": {Kind: api.AccHouse}, "D": {Kind: api.AccClaim},
	} {
		if s, e := chart.Name(a); s != name || e != api.OK {
			t.Errorf("Name(%s): %s, %d", told(a), shown(s), e)
		}
		if got, e := chart.Parse(name); got != a || e != api.OK {
			t.Errorf("Parse(%q): %s, %d", name, told(got), e)
		}
	}
}

// P11.1: what is no account's name.
func TestParseWrong(t *testing.T) {
	for _, s := range []string{"", "C", "A", "H0", "D0", "HH", "DD", "HD", "H ", " H", "h", "d", "c", "a", "0", "X", "\x00", "H\x00", "D\n", "B", "E", "G", "I", "@",
		"c4111111111111111", "a123456", "4111111111111111", "123456", "C4111111111111112", "C411111111111111", "C41111111111111111", "C 111111111111111",
		"A12345", "A1234567", "A12345x", "A 12345", "A123456 ", " A123456", "A4111111111111111", "C123456", "H123456", "D123456", "H4111111111111111",
		"CC4111111111111111", "AA123456", "AC4111111111111111", "CA123456", "E123456", "B123456", "C4111111111111111\n", "A123456\x00", "É123456", "А123456", "Ｈ", "\xff", "\xc3"} {
		if a, e := chart.Parse(s); a != (api.Account{}) || e != api.ErrForm {
			t.Errorf("Parse(%s): %s, %d", shown(s), told(a), e)
		}
		checkParse(t, s)
	}
}

// P11.1: each octet that there is ahead of each ID, and names with one octet changed, put in or left out.
func TestParse(t *testing.T) {
	for _, id := range ids() {
		for _, letter := range []string{"", "C", "A", "H", "D", "B", "c"} {
			checkParse(t, letter+id)
		}
	}
	for c := range 256 {
		for _, id := range []string{"", "123456", "4111111111111111"} {
			checkParse(t, string([]byte{byte(c)})+id)
			checkParse(t, id+string([]byte{byte(c)}))
		}
	}
	for _, a := range someOf() {
		name, _ := named(a)
		for _, s := range changed(name, odd) {
			checkParse(t, s)
		}
	}
}

// P11.1 and P11.2: an octet of an ID is each one that there is.
func TestEachOctet(t *testing.T) {
	for _, id := range []string{"4111111111111111", "123456"} {
		for i := range len(id) {
			for c := range 256 {
				b := []byte(id)
				b[i] = byte(c)
				checkMade(t, string(b))
				checkMay(t, api.Account{Kind: api.AccCard, ID: string(b)})
				checkMay(t, api.Account{Kind: api.AccAcq, ID: string(b)})
				checkParse(t, "C"+string(b))
				checkParse(t, "A"+string(b))
			}
		}
	}
}

// P11.1 and P11.2: digits of each count up to 40, all of them noughts, and sound ones.
func TestEachLength(t *testing.T) {
	for n := range 41 {
		for _, id := range []string{strings.Repeat("0", n), strings.Repeat("5", n), strings.Repeat("18", n/2), strings.Repeat("x", n)} {
			checkMade(t, id)
			for kind := range 6 {
				checkMay(t, api.Account{Kind: kind, ID: id})
			}
			for _, letter := range []string{"", "A", "C", "D", "H"} {
				checkParse(t, letter+id)
			}
		}
	}
}

// P11.2: what is made of a card's number, and of an acquirer's.
func TestCardAndAcquirer(t *testing.T) {
	if a, e := chart.Card("4111111111111111"); a != (api.Account{Kind: api.AccCard, ID: "4111111111111111"}) || e != api.OK {
		t.Errorf("Card: %s, %d", told(a), e)
	}
	if a, e := chart.Acquirer("123456"); a != (api.Account{Kind: api.AccAcq, ID: "123456"}) || e != api.OK {
		t.Errorf("Acquirer: %s, %d", told(a), e)
	}
	for _, id := range []string{"", "411111111111111", "41111111111111111", "4111111111111112", "411111111111111x", "123456", "C4111111111111111"} {
		if a, e := chart.Card(id); a != (api.Account{}) || e != api.ErrForm {
			t.Errorf("Card(%q): %s, %d", id, told(a), e)
		}
	}
	for _, id := range []string{"", "12345", "1234567", "12345x", "x23456", "12 456", "4111111111111111", "A123456", "A12345"} {
		if a, e := chart.Acquirer(id); a != (api.Account{}) || e != api.ErrForm {
			t.Errorf("Acquirer(%q): %s, %d", id, told(a), e)
		}
	}
	for _, id := range ids() {
		checkMade(t, id)
	}
}

// P11.2: accounts that may be, in order by their names: acquirers, cards, what is in dispute, the house.
func TestOrderOfNames(t *testing.T) {
	var l []api.Account
	for _, id := range acquirers {
		l = append(l, api.Account{Kind: api.AccAcq, ID: id})
	}
	for _, pan := range pans {
		l = append(l, api.Account{Kind: api.AccCard, ID: pan})
	}
	l = append(l, api.Account{Kind: api.AccClaim}, api.Account{Kind: api.AccHouse})
	for i, a := range l {
		for j, b := range l {
			want := 0
			if i < j {
				want = -1
			} else if i > j {
				want = 1
			}
			if got := chart.Order(a, b); got != want {
				t.Errorf("Order(%s; %s): %d, want %d", told(a), told(b), got, want)
			}
		}
	}
}

// P11.2: accounts that may not be come by their kind, and then their ID.
func TestOrderOfNoAccounts(t *testing.T) {
	for _, c := range []struct {
		a, b api.Account
		want int
	}{
		{api.Account{}, api.Account{}, 0},
		{api.Account{Kind: 0, ID: "z"}, api.Account{Kind: 1, ID: "a"}, -1},
		{api.Account{Kind: 1, ID: "z"}, api.Account{Kind: 2, ID: "a"}, -1},
		{api.Account{Kind: 2, ID: "a"}, api.Account{Kind: 1, ID: "z"}, 1},
		{api.Account{Kind: 3, ID: "z"}, api.Account{Kind: 4, ID: "a"}, -1},
		{api.Account{Kind: 4, ID: "a"}, api.Account{Kind: 3, ID: "z"}, 1},
		{api.Account{Kind: 4, ID: "z"}, api.Account{Kind: 5, ID: ""}, -1},
		{api.Account{Kind: 5, ID: ""}, api.Account{Kind: 5, ID: ""}, 0},
		{api.Account{Kind: 5, ID: ""}, api.Account{Kind: 5, ID: "\x00"}, -1},
		{api.Account{Kind: 5, ID: "\xff"}, api.Account{Kind: 5, ID: "\x7f"}, 1},
		{api.Account{Kind: 1, ID: "10"}, api.Account{Kind: 1, ID: "9"}, -1},
		{api.Account{Kind: 2, ID: "12345"}, api.Account{Kind: 2, ID: "1234567"}, -1},
		{api.Account{Kind: math.MinInt}, api.Account{Kind: math.MaxInt}, -1},
		{api.Account{Kind: math.MaxInt}, api.Account{Kind: math.MinInt}, 1},
		{api.Account{Kind: math.MinInt, ID: "b"}, api.Account{Kind: 1, ID: "a"}, -1},
		{api.Account{Kind: math.MaxInt, ID: "a"}, api.Account{Kind: -1, ID: "b"}, 1},
		// One of them has no name.
		{api.Account{Kind: 1, ID: "x"}, api.Account{Kind: 2, ID: "123456"}, -1},
		{api.Account{Kind: 1, ID: "4111111111111111"}, api.Account{Kind: 2, ID: "x"}, -1},
		{api.Account{Kind: 3, ID: ""}, api.Account{Kind: 4, ID: "x"}, -1},
		{api.Account{Kind: 3, ID: "x"}, api.Account{Kind: 4, ID: ""}, -1},
		{api.Account{Kind: 3, ID: ""}, api.Account{Kind: 3, ID: "x"}, -1},
		{api.Account{Kind: 2, ID: "1"}, api.Account{Kind: 2, ID: "123456"}, -1},
		{api.Account{Kind: 2, ID: "123456"}, api.Account{Kind: 2, ID: "1"}, 1},
		{api.Account{Kind: 1, ID: "4111111111111112"}, api.Account{Kind: 1, ID: "4111111111111111"}, 1},
		{api.Account{Kind: 0}, api.Account{Kind: 3}, -1},
	} {
		if got := chart.Order(c.a, c.b); got != c.want {
			t.Errorf("Order(%s; %s): %d, want %d", told(c.a), told(c.b), got, c.want)
		}
		checkOrder(t, c.a, c.b)
		checkOrder(t, c.b, c.a)
	}
}

// P11.2: each two of many accounts, and 0 just of the same one.
func TestOrderOfAll(t *testing.T) {
	l := mixed()
	for _, a := range l {
		for _, b := range l {
			checkOrder(t, a, b)
			if got := chart.Order(a, b); (got == 0) != (a == b) || got != -chart.Order(b, a) {
				t.Errorf("Order(%s; %s): %d, and the other way round %d", told(a), told(b), got, chart.Order(b, a))
			}
		}
	}
}

// P11.2: accounts that may be are sorted as their names are.
func TestOrderSorts(t *testing.T) {
	r := rand.New(rand.NewSource(11))
	l := someOf()
	for range 200 {
		l = append(l, api.Account{Kind: api.AccAcq, ID: fmt.Sprintf("%06d", r.Intn(1000000))})
	}
	r.Shuffle(len(l), func(i, j int) { l[i], l[j] = l[j], l[i] })
	names := make([]string, len(l))
	for i, a := range l {
		names[i], _ = named(a)
	}
	slices.Sort(names)
	slices.SortFunc(l, chart.Order)
	for i, a := range l {
		if name, _ := named(a); name != names[i] {
			t.Fatalf("at %d: %q, want %q", i, name, names[i])
		}
	}
}

// P11.3: each name is parsed as it was, and what is parsed has that name; two accounts have the same name just if they are the same.
func TestNamesAndBack(t *testing.T) {
	of := map[string]api.Account{}
	for _, a := range mixed() {
		name, e := chart.Name(a)
		if e != api.OK {
			continue
		}
		if got, f := chart.Parse(name); got != a || f != api.OK {
			t.Errorf("Parse(%s) of %s: %s, %d", shown(name), told(a), told(got), f)
		}
		if other, there := of[name]; there && other != a {
			t.Errorf("%s is the name of %s and of %s", shown(name), told(other), told(a))
		}
		of[name] = a
	}
	if len(of) != len(someOf()) {
		t.Errorf("%d names, want %d", len(of), len(someOf()))
	}
}

// P11.3: of texts made at random that are parsed, the name is the text.
func TestTextsAndBack(t *testing.T) {
	r, parsed := rand.New(rand.NewSource(12)), 0
	for range 20000 {
		n, letter := []int{0, 6, 15, 16, 17, r.Intn(20)}[r.Intn(6)], "CAHDX"[r.Intn(5)]
		b := []byte{letter}
		for range n {
			b = append(b, "0123456789"[r.Intn(10)])
		}
		checkParse(t, string(b))
		if a, e := chart.Parse(string(b)); e == api.OK {
			parsed++
			if name, f := chart.Name(a); name != string(b) || f != api.OK {
				t.Errorf("Name(%s): %s, %d; want %s", told(a), shown(name), f, shown(string(b)))
			}
		}
	}
	if parsed < 500 {
		t.Errorf("only %d texts were some account's names", parsed)
	}
}

// P11.3: one digit of a card's that is another one makes it no card's.
func TestOneDigit(t *testing.T) {
	for _, pan := range pans {
		for i := range len(pan) {
			for c := byte('0'); c <= '9'; c++ {
				b := []byte(pan)
				b[i] = c
				if _, e := chart.Card(string(b)); (e == api.OK) != (string(b) == pan) {
					t.Errorf("Card(%q): %d", b, e)
				}
			}
		}
	}
}

// R3 and R4: what is handed in stays as it was, and each call answers the same again, whatever was asked ahead of it.
func TestNothingIsKept(t *testing.T) {
	l, was := mixed(), mixed()
	ask := func() string {
		var b strings.Builder
		for i, a := range l {
			name, e := chart.Name(a)
			parsed, f := chart.Parse(name)
			made, g := chart.Card(a.ID)
			other, h := chart.Acquirer(a.ID)
			fmt.Fprintln(&b, chart.May(a), name, e, parsed, f, made, g, other, h, chart.Order(a, l[len(l)-1-i]))
		}
		return b.String()
	}
	first := ask()
	if ask() != first {
		t.Error("asked again, they answer otherwise")
	}
	if !slices.Equal(l, was) {
		t.Error("what was handed in is changed")
	}
}

// R3: what is answered hangs on no memory of what was handed in.
func TestAnswersAreTheirOwn(t *testing.T) {
	b := []byte("A123456")
	a, e := chart.Parse(string(b))
	for i := range b {
		b[i] = 'x'
	}
	if a != (api.Account{Kind: api.AccAcq, ID: "123456"}) || e != api.OK {
		t.Errorf("Parse: %s, %d", told(a), e)
	}
	a.ID, a.Kind = "9", 9
	if again, e := chart.Parse("A123456"); again != (api.Account{Kind: api.AccAcq, ID: "123456"}) || e != api.OK {
		t.Errorf("Parse again: %s, %d", told(again), e)
	}
}

// R1: long texts, and any octets, come to an end.
func TestLong(t *testing.T) {
	for _, c := range []string{"0", "x", "H", "\x00", "\xff"} {
		long := strings.Repeat(c, 1<<20)
		checkMade(t, long)
		for _, kind := range kinds() {
			checkMay(t, api.Account{Kind: kind, ID: long})
			checkOrder(t, api.Account{Kind: kind, ID: long}, api.Account{Kind: 2, ID: "123456"})
		}
		for _, letter := range []string{"", "C", "A", "H", "D"} {
			checkParse(t, letter+long)
		}
	}
}
