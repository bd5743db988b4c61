package book_test

import (
	"fmt"
	"math"
	"math/big"
	"math/rand"
	"regexp"
	"slices"
	"strings"
	"testing"

	"bursar/api"
	"bursar/book"
	"bursar/entry"
)

const (
	most  = math.MaxInt64
	least = math.MinInt64
)

// The accounts of the tests, in order. All of them may be.
var (
	inn   = api.Account{Kind: api.AccAcq, ID: "000000"}
	shop  = api.Account{Kind: api.AccAcq, ID: "123456"}
	last  = api.Account{Kind: api.AccAcq, ID: "999999"}
	none  = api.Account{Kind: api.AccCard, ID: "0000000000000000"}
	card  = api.Account{Kind: api.AccCard, ID: "4111111111111111"}
	other = api.Account{Kind: api.AccCard, ID: "5555555555554444"}
	claim = api.Account{Kind: api.AccClaim}
	house = api.Account{Kind: api.AccHouse}
)

// accounts are the eight above: as many as an entry has lines at most.
func accounts() []api.Account {
	return []api.Account{inn, shop, last, none, card, other, claim, house}
}

// wrong are accounts that may not be.
func wrong() []api.Account {
	return []api.Account{
		{}, {Kind: -1}, {Kind: 0, ID: "123456"}, {Kind: 5}, {Kind: math.MaxInt}, {Kind: math.MinInt}, {Kind: 1<<32 + 3}, {Kind: 3, ID: "1"}, {Kind: 3, ID: " "},
		{Kind: 4, ID: "H"}, {Kind: 4, ID: "\x00"}, {Kind: 1}, {Kind: 1, ID: "4111111111111112"}, {Kind: 1, ID: "411111111111111"}, {Kind: 1, ID: "123456"},
		{Kind: 2}, {Kind: 2, ID: "12345"}, {Kind: 2, ID: "1234567"}, {Kind: 2, ID: "12345x"}, {Kind: 2, ID: "4111111111111111"}, {Kind: 2, ID: strings.Repeat("0", 1<<16)},
	}
}

// many are 300 accounts in order: 150 acquirers, 148 cards, what is in dispute, and the house.
func many() []api.Account {
	var l []api.Account
	for i := range 150 {
		l = append(l, api.Account{Kind: api.AccAcq, ID: fmt.Sprintf("%06d", 5000+37*i)})
	}
	for i := range 148 {
		ahead := fmt.Sprintf("4%014d", 7919*i)
		for c := range 10 {
			if id := fmt.Sprint(ahead, c); isPan(id) {
				l = append(l, api.Account{Kind: api.AccCard, ID: id})
			}
		}
	}
	return append(l, claim, house)
}

// has is a balance.
func has(a api.Account, amount int64) api.Balance { return api.Balance{Account: a, Amount: amount} }

// line is a line of an entry.
func line(a api.Account, amount int64) api.Line { return api.Line{Account: a, Amount: amount} }

// lines is an entry.
func lines(l ...api.Line) api.Entry { return api.Entry{Batch: 7, Ref: "r1", L: l} }

// move is an entry of two lines that may be.
func move(from, to api.Account, amount int64) api.Entry {
	return lines(line(from, -amount), line(to, amount))
}

// sized is a book of so many balances (not of one alone) that may be.
func sized(n int) []api.Balance { return drawn(rand.New(rand.NewSource(int64(n))), many(), n) }

// drawn is a book of so many of the accounts, which are in order, that may be.
func drawn(r *rand.Rand, l []api.Account, n int) []api.Balance {
	for {
		var b []api.Balance
		sum := int64(0)
		places := r.Perm(len(l))[:n]
		slices.Sort(places)
		for _, i := range places {
			amount := 1 + int64(r.Intn(1<<31>>r.Intn(31)))
			if r.Intn(2) == 0 {
				amount = -amount
			}
			sum += amount
			b = append(b, has(l[i], amount))
		}
		if n > 0 {
			b[r.Intn(n)].Amount -= sum
		}
		if mayBe(b) || n == 1 || n > 200 {
			return b
		}
	}
}

// spare is a list with room behind it, so that what is written there shows.
func spare[T any](l []T) []T { return append(make([]T, 0, len(l)+20), l...) }

// copied are entries that have no memory in common with others.
func copied(l []api.Entry) []api.Entry {
	l = slices.Clone(l)
	for i := range l {
		l[i].L = slices.Clone(l[i].L)
	}
	return l
}

// alike: are two lists of entries the same?
func alike(l, m []api.Entry) bool {
	return slices.EqualFunc(l, m, func(x, y api.Entry) bool {
		return x.Batch == y.Batch && x.Ref == y.Ref && slices.Equal(x.L, y.L)
	})
}

// whose is an account, for what a test tells.
func whose(a api.Account) string { return fmt.Sprintf("kind %d %.20q", a.Kind, a.ID) }

// told is a book, for what a test tells.
func told(b []api.Balance) string {
	var s strings.Builder
	fmt.Fprintf(&s, "%d balances", len(b))
	for _, has := range b[:min(len(b), 10)] {
		fmt.Fprintf(&s, ", %s %d", whose(has.Account), has.Amount)
	}
	return s.String()
}

// shown are entries, for what a test tells.
func shown(l ...api.Entry) string {
	var s strings.Builder
	fmt.Fprintf(&s, "%d entries", len(l))
	for _, x := range l[:min(len(l), 3)] {
		fmt.Fprintf(&s, "; batch %d, ref %.25q", x.Batch, x.Ref)
		for _, l := range x.L[:min(len(x.L), 10)] {
			fmt.Fprintf(&s, ", %s %d", whose(l.Account), l.Amount)
		}
	}
	return s.String()
}

// doubles is what each digit counts where it is doubled, reckoned by hand.
var doubles = [10]int{0, 2, 4, 6, 8, 1, 3, 5, 7, 9}

// isPan tells it by chapter 2's and 11's words: 16 sound digits.
func isPan(id string) bool {
	if len(id) != 16 || strings.Trim(id, "0123456789") != "" {
		return false
	}
	sum := 0
	for i := 0; i < 16; i += 2 {
		sum += doubles[id[i]-'0'] + int(id[i+1]-'0')
	}
	return sum%10 == 0
}

var sixDigits = regexp.MustCompile(`\A[0-9]{6}\z`)

// named is an account's name by chapter 11's words, if it may be.
func named(a api.Account) (string, bool) {
	switch {
	case a.Kind == 1 && isPan(a.ID):
		return "C" + a.ID, true
	case a.Kind == 2 && sixDigits.MatchString(a.ID):
		return "A" + a.ID, true
	case a.Kind == 3 && a.ID == "":
		return "H", true
	case a.Kind == 4 && a.ID == "":
		return "D", true
	}
	return "", false
}

// judged is what is wrong with an entry by chapter 12's words.
func judged(x api.Entry) api.Errno {
	if x.Batch < 0 || x.Batch > 2147483647 || len(x.Ref) > 20 || len(x.L) < 2 || len(x.L) > 8 {
		return api.ErrArg
	}
	for i := range len(x.Ref) {
		if x.Ref[i] < 33 || x.Ref[i] > 126 {
			return api.ErrArg
		}
	}
	sum, times := new(big.Int), map[api.Account]int{}
	for _, l := range x.L {
		times[l.Account]++
		if _, may := named(l.Account); !may || l.Amount == 0 || times[l.Account] > 1 {
			return api.ErrArg
		}
		sum.Add(sum, big.NewInt(l.Amount))
	}
	if !sum.IsInt64() {
		return api.ErrOver
	}
	if sum.Sign() != 0 {
		return api.ErrEven
	}
	return api.OK
}

// mayBe tells it of a book by the chapter's words.
func mayBe(b []api.Balance) bool {
	if len(b) > 200 {
		return false
	}
	sum, times, names := new(big.Int), map[api.Account]int{}, []string{}
	for _, has := range b {
		name, may := named(has.Account)
		times[has.Account]++
		if !may || has.Amount == 0 || times[has.Account] > 1 {
			return false
		}
		names = append(names, name)
		sum.Add(sum, big.NewInt(has.Amount))
	}
	return slices.IsSorted(names) && sum.Sign() == 0
}

// account is the account of a name.
func account(name string) api.Account {
	return api.Account{Kind: 1 + strings.Index("CAHD", name[:1]), ID: name[1:]}
}

// posted is what comes of a post by the chapter's words: by sums without end, and names that are sorted in the end.
func posted(b []api.Balance, x api.Entry) ([]api.Balance, api.Errno) {
	if !mayBe(b) {
		return nil, api.ErrArg
	}
	if e := judged(x); e != api.OK {
		return nil, e
	}
	sums := map[string]*big.Int{}
	more := func(a api.Account, amount int64) {
		name, _ := named(a)
		if sums[name] == nil {
			sums[name] = new(big.Int)
		}
		sums[name].Add(sums[name], big.NewInt(amount))
	}
	for _, has := range b {
		more(has.Account, has.Amount)
	}
	for _, l := range x.L {
		more(l.Account, l.Amount)
	}
	var names []string
	for name, sum := range sums {
		if !sum.IsInt64() {
			return nil, api.ErrOver
		}
		if sum.Sign() != 0 {
			names = append(names, name)
		}
	}
	if len(names) > 200 {
		return nil, api.ErrFull
	}
	slices.Sort(names)
	var next []api.Balance
	for _, name := range names {
		next = append(next, has(account(name), sums[name].Int64()))
	}
	return next, api.OK
}

// checkMay holds May and Get against the chapter's words.
func checkMay(t *testing.T, b []api.Balance) {
	t.Helper()
	was, may := slices.Clone(b), mayBe(b)
	if got := book.May(b); got != may {
		t.Fatalf("May(%s): %v, want %v", told(b), got, may)
	}
	asked := append(accounts(), wrong()...)
	for _, i := range []int{0, 1, len(b) / 2, len(b) - 1} {
		if i >= 0 && i < len(b) {
			asked = append(asked, b[i].Account)
		}
	}
	for _, a := range asked {
		want := int64(0)
		if i := slices.IndexFunc(b, func(has api.Balance) bool { return has.Account == a }); i >= 0 && may {
			want = b[i].Amount
		}
		if got := book.Get(b, a); got != want {
			t.Fatalf("Get(%s; %s): %d, want %d", told(b), whose(a), got, want)
		}
	}
	if !slices.Equal(b, was) {
		t.Fatalf("changed to %s: %s", told(b), told(was))
	}
}

// checkPosts holds Posts, and of one entry Post, too, against the chapter's words.
func checkPosts(t *testing.T, b []api.Balance, l ...api.Entry) {
	t.Helper()
	was, entries := slices.Clone(b), copied(l)
	want, e := b, api.OK
	for _, x := range l {
		if want, e = posted(want, x); e != api.OK {
			break
		}
	}
	handed := spare(b)
	if got, f := book.Posts(handed, l...); !slices.Equal(got, want) || f != e {
		t.Fatalf("Posts(%s; %s): %s, %d; want %s, %d", told(b), shown(l...), told(got), f, told(want), e)
	}
	if len(l) == 1 {
		if got, f := book.Post(handed, l[0]); !slices.Equal(got, want) || f != e {
			t.Fatalf("Post(%s; %s): %s, %d; want %s, %d", told(b), shown(l...), told(got), f, told(want), e)
		}
	}
	if !slices.Equal(handed, was) || handed[:len(b)+1][len(b)] != (api.Balance{}) {
		t.Fatalf("the book is changed to %s: %s", told(handed), told(was))
	}
	if !alike(l, entries) {
		t.Fatalf("the entries are changed to %s: %s", shown(l...), shown(entries...))
	}
}

// checkOf holds Of against the chapter's words.
func checkOf(t *testing.T, l []api.Entry, batch int) {
	t.Helper()
	entries := copied(l)
	var want []api.Balance
	e := api.OK
	for _, x := range l {
		if x.Batch == batch && e == api.OK {
			want, e = posted(want, x)
		}
	}
	if got, f := book.Of(l, batch); !slices.Equal(got, want) || f != e {
		t.Fatalf("Of(%s; %d): %s, %d; want %s, %d", shown(l...), batch, told(got), f, told(want), e)
	}
	if !alike(l, entries) {
		t.Fatalf("the entries are changed to %s: %s", shown(l...), shown(entries...))
	}
}

// anyEntry is an entry of two to eight lines of the accounts, with amounts below the bound, that may be.
func anyEntry(r *rand.Rand, l []api.Account, bound int64) api.Entry {
	for {
		x := api.Entry{Batch: r.Intn(4), Ref: "r1"}
		sum := int64(0)
		places := r.Perm(len(l))
		for _, i := range places[:2+r.Intn(min(len(l), 8)-1)] {
			amount := r.Int63n(bound) - bound/2
			sum += amount
			x.L = append(x.L, line(l[i], amount))
		}
		x.L[len(x.L)-1].Amount -= sum
		if judged(x) == api.OK {
			return x
		}
	}
}

func TestExamples(t *testing.T) {
	x := lines(line(house, -105), line(claim, 105))
	b, e := book.Post(nil, x)
	if want := []api.Balance{has(claim, 105), has(house, -105)}; !slices.Equal(b, want) || e != api.OK {
		t.Errorf("1: %s, %d", told(b), e)
	}
	back, e := entry.Back(x)
	if b, f := book.Post(b, back); len(b) != 0 || e != api.OK || f != api.OK {
		t.Errorf("2: %s, %d, %d", told(b), e, f)
	}
	if book.May([]api.Balance{has(claim, 105)}) {
		t.Error("3: it may be")
	}
}

// P13.1: which books may be, written out.
func TestMayWritten(t *testing.T) {
	for i, c := range []struct {
		b   []api.Balance
		may bool
	}{
		{nil, true},
		{[]api.Balance{}, true},
		{[]api.Balance{has(claim, 105)}, false},
		{[]api.Balance{has(claim, 0)}, false},
		{[]api.Balance{{}}, false},
		{[]api.Balance{has(claim, 105), has(house, -105)}, true},
		{[]api.Balance{has(claim, -105), has(house, 105)}, true},
		{[]api.Balance{has(house, -105), has(claim, 105)}, false},
		{[]api.Balance{has(claim, 105), has(house, -104)}, false},
		{[]api.Balance{has(claim, 105), has(house, 105)}, false},
		{[]api.Balance{has(claim, 0), has(house, 0)}, false},
		{[]api.Balance{has(claim, 1), has(claim, -1)}, false},
		{[]api.Balance{has(shop, 5), has(card, -5)}, true},
		{[]api.Balance{has(card, -5), has(shop, 5)}, false},
		{[]api.Balance{has(card, -5), has(claim, 5)}, true},
		{[]api.Balance{has(claim, 5), has(card, -5)}, false},
		{[]api.Balance{has(shop, 5), has(house, -5)}, true},
		{[]api.Balance{has(inn, 5), has(shop, -5)}, true},
		{[]api.Balance{has(shop, 5), has(inn, -5)}, false},
		{[]api.Balance{has(card, 5), has(other, -5)}, true},
		{[]api.Balance{has(other, 5), has(card, -5)}, false},
		{[]api.Balance{has(shop, 5), has(card, 0), has(house, -5)}, false},
		{[]api.Balance{has(shop, 5), has(api.Account{Kind: 1, ID: "4111111111111112"}, 1), has(house, -6)}, false},
		{[]api.Balance{has(api.Account{}, 5), has(house, -5)}, false},
		{[]api.Balance{has(house, -5), has(api.Account{Kind: 5}, 5)}, false},
		{[]api.Balance{has(inn, 1), has(shop, 2), has(last, 3), has(none, 4), has(card, 5), has(other, 6), has(claim, 7), has(house, -28)}, true},
		{[]api.Balance{has(inn, 1), has(shop, 2), has(last, 3), has(none, 4), has(card, 5), has(other, 6), has(claim, 7), has(house, -27)}, false},
		{[]api.Balance{has(inn, most), has(shop, -most)}, true},
		{[]api.Balance{has(inn, least), has(shop, most)}, false},
		{[]api.Balance{has(inn, least), has(shop, most), has(last, 1)}, true},
		{[]api.Balance{has(inn, most), has(shop, 1), has(last, least)}, true},
		{[]api.Balance{has(inn, most), has(shop, most), has(last, -most), has(none, -most)}, true},
		{[]api.Balance{has(inn, least), has(shop, least), has(last, most), has(none, most), has(card, 2)}, true},
		{[]api.Balance{has(inn, most), has(shop, 1)}, false},
		{[]api.Balance{has(inn, least), has(shop, -1)}, false},
		{[]api.Balance{has(inn, most), has(shop, most), has(last, 2)}, false},
		{[]api.Balance{has(inn, least), has(shop, least)}, false},
		{[]api.Balance{has(inn, 1<<62), has(shop, 1<<62), has(last, 1<<62), has(none, 1<<62)}, false},
	} {
		if may := book.May(c.b); may != c.may {
			t.Errorf("%d: May(%s): %v", i, told(c.b), may)
		}
		checkMay(t, c.b)
	}
}

// P13.1: books of none to many balances.
func TestHowManyBalances(t *testing.T) {
	for n := range 300 {
		b := sized(n)
		if may := book.May(b); may != (n != 1 && n <= 200) {
			t.Errorf("May of %d balances: %v", n, may)
		}
		checkMay(t, b)
	}
	checkMay(t, make([]api.Balance, 1<<20))
}

// P13.1: a book that may be, spoilt at each place.
func TestMayOfSpoiltBooks(t *testing.T) {
	for _, n := range []int{2, 3, 8, 50, 200} {
		right := sized(n)
		checkMay(t, right)
		for i := range n {
			if n == 200 && i > 0 && i%10 != 9 {
				continue
			}
			spoil := func(what string, change func(b []api.Balance)) {
				t.Helper()
				b := slices.Clone(right)
				change(b)
				if book.May(b) {
					t.Errorf("%s at %d: May(%s)", what, i, told(b))
				}
				if got := book.Get(b, right[0].Account); got != 0 {
					t.Errorf("%s at %d: Get: %d", what, i, got)
				}
				checkMay(t, b)
			}
			spoil("one more", func(b []api.Balance) { b[i].Amount++ })
			spoil("one less", func(b []api.Balance) { b[i].Amount-- })
			for _, j := range []int{0, i - 1, i + 1, n / 2, n - 1} {
				if i == j || j < 0 || j >= n {
					continue
				}
				// The sum is 0 all the while, so that it tells nothing.
				spoil("nothing", func(b []api.Balance) { b[j].Amount, b[i].Amount = b[j].Amount+b[i].Amount, 0 })
				spoil("out of order", func(b []api.Balance) { b[i], b[j] = b[j], b[i] })
				spoil("twice", func(b []api.Balance) { b[i].Account = b[j].Account })
			}
			for _, a := range wrong() {
				spoil("none", func(b []api.Balance) { b[i].Account = a })
			}
		}
	}
}

// P13.1: balances in each order there is: one of them is a book.
func TestMayInOneOrderAlone(t *testing.T) {
	right, books := []api.Balance{has(inn, 1), has(other, 2), has(card, 3), has(claim, 4), has(house, -10)}, 0
	var turn func(b []api.Balance, n int)
	turn = func(b []api.Balance, n int) {
		if n == len(b) {
			checkMay(t, b)
			if book.May(b) {
				books++
			}
		}
		for i := n; i < len(b); i++ {
			b[n], b[i] = b[i], b[n]
			turn(b, n+1)
			b[n], b[i] = b[i], b[n]
		}
	}
	turn(right, 0)
	if books != 1 {
		t.Errorf("%d of them may be", books)
	}
}

// P13.1: an account that is there twice, beside itself, and not.
func TestTwice(t *testing.T) {
	for _, b := range [][]api.Balance{
		{has(card, 5), has(card, 5), has(house, -10)},
		{has(card, 5), has(card, -5)},
		{has(card, 5), has(house, -10), has(card, 5)},
		{has(claim, 2), has(house, -3), has(house, 1)},
		{has(shop, 1), has(card, 1), has(shop, 1), has(house, -3)},
		{has(house, 1), has(shop, 1), has(card, -3), has(house, 1)},
	} {
		if book.May(b) {
			t.Errorf("May(%s)", told(b))
		}
		checkMay(t, b)
		checkPosts(t, b, move(card, house, 1))
	}
}

// P13.1: Get, written out.
func TestGetWritten(t *testing.T) {
	right := []api.Balance{has(shop, -1), has(last, -2), has(card, 4), has(claim, most), has(house, least)}
	uneven := []api.Balance{has(shop, -1), has(last, -2), has(card, 3), has(claim, most), has(house, least)}
	for _, c := range []struct {
		a    api.Account
		want int64
	}{
		{shop, -1}, {last, -2}, {card, 4}, {claim, most}, {house, least},
		{inn, 0}, {none, 0}, {other, 0}, {api.Account{}, 0}, {api.Account{Kind: 3, ID: "1"}, 0}, {api.Account{Kind: 1, ID: "123456"}, 0}, {api.Account{Kind: 2, ID: "4111111111111111"}, 0},
		{api.Account{Kind: 1, ID: "4111111111111112"}, 0}, {api.Account{Kind: 2}, 0}, {api.Account{Kind: 5}, 0}, {api.Account{Kind: -1}, 0},
	} {
		if got := book.Get(right, c.a); got != c.want {
			t.Errorf("Get %s: %d, want %d", whose(c.a), got, c.want)
		}
		if got := book.Get(uneven, c.a); got != 0 {
			t.Errorf("Get %s of a book that may not be: %d", whose(c.a), got)
		}
		if got := book.Get(nil, c.a); got != 0 {
			t.Errorf("Get %s of no balances: %d", whose(c.a), got)
		}
	}
}

// P13.1: Get of each account that is in a book, and of each that is not.
func TestGetOfEach(t *testing.T) {
	for _, n := range []int{0, 2, 3, 100, 199, 200} {
		b := sized(n)
		amounts := map[api.Account]int64{}
		for _, has := range b {
			amounts[has.Account] = has.Amount
		}
		for _, a := range append(many(), append(accounts(), wrong()...)...) {
			if got := book.Get(b, a); got != amounts[a] {
				t.Errorf("Get %s of %d balances: %d, want %d", whose(a), n, got, amounts[a])
			}
		}
	}
	b := sized(201)
	for _, has := range b {
		if got := book.Get(b, has.Account); got != 0 {
			t.Errorf("Get %s of 201 balances: %d", whose(has.Account), got)
		}
	}
}

// P13.2: Post, written out.
func TestPostWritten(t *testing.T) {
	b := []api.Balance{has(shop, 100), has(card, -105), has(house, 5)}
	for i, c := range []struct {
		b    []api.Balance
		x    api.Entry
		want []api.Balance
		e    api.Errno
	}{
		{nil, move(house, claim, 105), []api.Balance{has(claim, 105), has(house, -105)}, api.OK},
		{[]api.Balance{}, move(claim, house, 105), []api.Balance{has(claim, -105), has(house, 105)}, api.OK},
		// All accounts are there, none, or some.
		{b, lines(line(house, -3), line(shop, 1), line(card, 2)), []api.Balance{has(shop, 101), has(card, -103), has(house, 2)}, api.OK},
		{b, move(other, inn, 7), []api.Balance{has(inn, 7), has(shop, 100), has(card, -105), has(other, -7), has(house, 5)}, api.OK},
		{b, lines(line(claim, 3), line(card, -2), line(last, -1)), []api.Balance{has(shop, 100), has(last, -1), has(card, -107), has(claim, 3), has(house, 5)}, api.OK},
		// Balances that go to 0, and on.
		{b, move(house, card, 5), []api.Balance{has(shop, 100), has(card, -100)}, api.OK},
		{b, move(house, card, 4), []api.Balance{has(shop, 100), has(card, -101), has(house, 1)}, api.OK},
		{b, move(house, card, 6), []api.Balance{has(shop, 100), has(card, -99), has(house, -1)}, api.OK},
		{b, lines(line(house, -5), line(card, 105), line(shop, -100)), nil, api.OK},
		{b, lines(line(claim, -5), line(card, 105), line(shop, -100)), []api.Balance{has(claim, -5), has(house, 5)}, api.OK},
		// All at once, and the greatest amounts.
		{nil, lines(line(house, 8), line(inn, -1), line(other, -1), line(last, -2), line(none, -1), line(card, -1), line(shop, -1), line(claim, -1)), []api.Balance{has(inn, -1), has(shop, -1), has(last, -2), has(none, -1), has(card, -1), has(other, -1), has(claim, -1), has(house, 8)}, api.OK},
		{nil, lines(line(house, least), line(card, most), line(shop, 1)), []api.Balance{has(shop, 1), has(card, most), has(house, least)}, api.OK},
		{[]api.Balance{has(card, most-1), has(house, 1-most)}, move(house, card, 1), []api.Balance{has(card, most), has(house, -most)}, api.OK},
		{[]api.Balance{has(card, most), has(house, -most)}, move(house, shop, 1), []api.Balance{has(shop, 1), has(card, most), has(house, least)}, api.OK},
		{[]api.Balance{has(card, most), has(house, -most)}, move(house, card, 1), nil, api.ErrOver},
		{[]api.Balance{has(card, most), has(house, -most)}, move(shop, card, 1), nil, api.ErrOver},
		{[]api.Balance{has(shop, 1), has(card, most), has(house, least)}, move(house, other, 1), nil, api.ErrOver},
		{[]api.Balance{has(shop, 1), has(card, most), has(house, least)}, move(card, house, most), []api.Balance{has(shop, 1), has(house, -1)}, api.OK},
		{[]api.Balance{has(shop, -1), has(card, -most), has(claim, most), has(house, 1)}, lines(line(card, least), line(claim, 1), line(last, most)), nil, api.ErrOver},
		{[]api.Balance{has(card, most), has(house, -most)}, lines(line(card, least), line(house, most), line(shop, 1)), []api.Balance{has(shop, 1), has(card, -1)}, api.OK},
		// Books and entries that may not be.
		{[]api.Balance{has(claim, 105)}, move(house, claim, 105), nil, api.ErrArg},
		{[]api.Balance{has(house, -105), has(claim, 105)}, move(house, claim, 105), nil, api.ErrArg},
		{b, api.Entry{}, nil, api.ErrArg},
		{nil, api.Entry{}, nil, api.ErrArg},
		{b, lines(line(house, 5), line(house, -5)), nil, api.ErrArg},
		{b, lines(line(house, 5), line(claim, -4)), nil, api.ErrEven},
		{nil, lines(line(house, most), line(claim, 1)), nil, api.ErrOver},
		{b, api.Entry{Batch: -1, L: move(house, claim, 5).L}, nil, api.ErrArg},
		{b, api.Entry{Ref: " ", L: move(house, claim, 5).L}, nil, api.ErrArg},
		{b, api.Entry{L: move(house, claim, 5).L}, []api.Balance{has(shop, 100), has(card, -105), has(claim, 5)}, api.OK},
	} {
		got, e := book.Post(c.b, c.x)
		if !slices.Equal(got, c.want) || e != c.e || e != api.OK && got != nil {
			t.Errorf("%d: Post(%s; %s): %s, %d; want %s, %d", i, told(c.b), shown(c.x), told(got), e, told(c.want), c.e)
		}
		checkPosts(t, c.b, c.x)
	}
}

// P13.2: Posts to full books, and to nearly full ones.
func TestPostWhereThereIsNoRoom(t *testing.T) {
	// The accounts that a book of the first 200 has, and those that it has not.
	there, new := many()[:200], many()[200:]
	full := drawn(rand.New(rand.NewSource(1)), there, 200)
	first, second := full[10], full[150]
	gone := line(first.Account, -first.Amount)
	for _, c := range []struct {
		n int // balances of the book
		x api.Entry
		e api.Errno
	}{
		{200, move(first.Account, second.Account, 1<<40), api.OK},
		{200, move(first.Account, new[0], 1<<40), api.ErrFull},
		{200, move(new[0], first.Account, 1<<40), api.ErrFull},
		{200, move(new[0], new[1], 5), api.ErrFull},
		{200, move(house, claim, 5), api.ErrFull},
		// One goes to 0, and makes room, wherever its line stands.
		{200, lines(gone, line(new[0], first.Amount)), api.OK},
		{200, lines(line(new[0], first.Amount), gone), api.OK},
		{200, lines(gone, line(house, first.Amount)), api.OK},
		{200, lines(line(new[0], first.Amount-1), gone, line(new[1], 1)), api.ErrFull},
		{200, lines(line(new[0], first.Amount), line(new[1], second.Amount), gone, line(second.Account, -second.Amount)), api.OK},
		{200, lines(line(new[0], first.Amount), line(new[1], second.Amount-1), line(new[2], 1), gone, line(second.Account, -second.Amount)), api.ErrFull},
		{199, lines(line(first.Account, 1<<40), line(new[0], -1<<40)), api.OK},
		{199, move(new[0], new[1], 5), api.ErrFull},
		{199, move(first.Account, second.Account, 1<<40), api.OK},
		{198, move(new[0], new[1], 5), api.OK},
		{198, lines(line(new[0], 1), line(new[1], 1), line(new[2], -2)), api.ErrFull},
		{193, lines(line(new[0], 1), line(new[1], 1), line(new[2], 1), line(new[3], 1), line(new[4], 1), line(new[5], 1), line(new[6], 1), line(new[7], -7)), api.ErrFull},
		{192, lines(line(new[0], 1), line(new[1], 1), line(new[2], 1), line(new[3], 1), line(new[4], 1), line(new[5], 1), line(new[6], 1), line(new[7], -7)), api.OK},
	} {
		b := full
		if c.n < 200 {
			b = drawn(rand.New(rand.NewSource(1)), there[:c.n], c.n)
		}
		if got, e := book.Post(b, c.x); e != c.e || e != api.OK && got != nil {
			t.Errorf("Post(%s; %s): %s, %d; want %d", told(b), shown(c.x), told(got), e, c.e)
		}
		checkPosts(t, b, c.x)
	}
}

// P13.2: all of a full book's eight lines come and go.
func TestPostOfFourThatComeAndFourThatGo(t *testing.T) {
	r := rand.New(rand.NewSource(2))
	there, new := many()[:200], many()[200:]
	for range 200 {
		b := drawn(r, there, 200)
		x, want := lines(), api.OK
		for i, at := range r.Perm(200)[:4] {
			x.L = append(x.L, line(b[at].Account, -b[at].Amount), line(new[7*i+r.Intn(7)], b[at].Amount))
		}
		if r.Intn(2) == 0 {
			// One unit stays behind.
			x.L[0].Amount++
			x.L[1].Amount--
			if x.L[0].Amount == 0 || x.L[1].Amount == 0 {
				continue
			}
			want = api.ErrFull
		}
		r.Shuffle(8, func(i, j int) { x.L[i], x.L[j] = x.L[j], x.L[i] })
		if got, e := book.Post(b, x); e != want {
			t.Errorf("Post(%s; %s): %s, %d; want %d", told(b), shown(x), told(got), e, want)
		}
		checkPosts(t, b, x)
	}
}

// P13.2: which error comes first.
func TestWhichErrorFirst(t *testing.T) {
	l := many()
	full := drawn(rand.New(rand.NewSource(3)), l[:200], 200)
	full[60].Amount += full[3].Amount + full[120].Amount
	full[3].Amount, full[120].Amount = most, -most
	if !mayBe(full) {
		t.Fatal("it is no book")
	}
	spoilt := slices.Clone(full)
	spoilt[50].Amount++
	over, new := line(full[3].Account, 1), line(l[250], -1)
	for _, c := range []struct {
		what string
		b    []api.Balance
		x    api.Entry
		e    api.Errno
	}{
		{"a book that may not be, and an entry", spoilt, lines(over, line(l[250], -2)), api.ErrArg},
		{"a book that may not be, and an entry over", spoilt, lines(line(house, most), line(claim, most)), api.ErrArg},
		{"a book that may not be, and over", spoilt, lines(over, line(l[5], -1)), api.ErrArg},
		{"a book that may not be, and full", spoilt, move(l[250], l[251], 5), api.ErrArg},
		{"an entry that may not be, over and full", full, api.Entry{Batch: -1, L: []api.Line{over, new}}, api.ErrArg},
		{"an entry that is uneven, over and full", full, lines(over, line(l[250], -2)), api.ErrEven},
		{"an entry that is uneven and full", full, lines(line(l[251], 1), line(l[250], -2)), api.ErrEven},
		{"an entry that may not be and is uneven", full, lines(over, line(l[250], -2), line(house, 0)), api.ErrArg},
		{"over and full", full, lines(over, new), api.ErrOver},
		{"full and over", full, lines(new, over), api.ErrOver},
		{"full, full and over", full, lines(new, line(l[251], -1), line(l[252], 1), over), api.ErrOver},
		{"full alone", full, lines(line(full[3].Account, -1), line(l[250], 1)), api.ErrFull},
		{"over alone", full, lines(over, line(l[5], -1)), api.ErrOver},
	} {
		if got, e := book.Post(c.b, c.x); got != nil || e != c.e {
			t.Errorf("%s: %s, %d; want %d", c.what, told(got), e, c.e)
		}
		checkPosts(t, c.b, c.x)
	}
}

// P13.2: Post to each kind of book that may not be, of an entry that may be, or may not.
func TestPostToWrongBooks(t *testing.T) {
	right := sized(20)
	for i := range right {
		for _, change := range []func(b []api.Balance){
			func(b []api.Balance) { b[i].Amount++ },
			func(b []api.Balance) { b[(i+1)%20].Amount += b[i].Amount; b[i].Amount = 0 },
			func(b []api.Balance) { b[i].Account = api.Account{Kind: 5} },
			func(b []api.Balance) { b[i].Account = b[(i+1)%20].Account },
			func(b []api.Balance) { b[i], b[(i+1)%20] = b[(i+1)%20], b[i] },
		} {
			b := slices.Clone(right)
			change(b)
			// One that would set it right again, too.
			for _, x := range []api.Entry{move(card, house, 5), lines(line(house, 5), line(claim, -4)), {}, move(right[i].Account, house, 1), move(house, right[i].Account, right[i].Amount)} {
				if got, e := book.Post(b, x); got != nil || e != api.ErrArg {
					t.Errorf("Post(%s; %s): %s, %d", told(b), shown(x), told(got), e)
				}
				checkPosts(t, b, x)
				checkPosts(t, b, x, move(card, house, 5))
			}
		}
	}
}

// P13.2: Post of entries that may not be: layer 12's Check.
func TestPostOfWrongEntries(t *testing.T) {
	all := many()
	for _, b := range [][]api.Balance{nil, sized(2), sized(20), sized(200)} {
		for i := range 2 {
			for _, a := range wrong() {
				x := move(card, house, 5)
				x.L[i].Account = a
				if got, e := book.Post(b, x); got != nil || e != api.ErrArg {
					t.Errorf("Post(%s; %s): %s, %d", told(b), shown(x), told(got), e)
				}
				checkPosts(t, b, x)
			}
		}
		for _, l := range [][]int64{{}, {5}, {5, -5}, {5, 0}, {5, -4}, {0, 0}, {most, 1}, {least, -1}, {least, most}, {most, most, 2}, {1, 2, 3, 4, 5, 6, 7, -28}, {1, 2, 3, 4, 5, 6, 7, 8, -36}} {
			for _, batch := range []int{-1, 0, math.MaxInt32, math.MaxInt32 + 1, math.MinInt, math.MaxInt} {
				for _, ref := range []string{"", "r1", " ", strings.Repeat("a", 20), strings.Repeat("a", 21)} {
					x := api.Entry{Batch: batch, Ref: ref}
					for i, amount := range l {
						x.L = append(x.L, line(all[i], amount))
					}
					checkPosts(t, b, x)
				}
			}
		}
	}
}

// P13.2: Posts of none, of one, and of several, of which one is refused.
func TestPostsWritten(t *testing.T) {
	b := []api.Balance{has(card, 5), has(house, -5)}
	one, two, back := move(house, card, 10), move(card, shop, 3), move(shop, card, 3)
	uneven, not := lines(line(house, 5), line(claim, -4)), api.Entry{}
	for i, c := range []struct {
		b    []api.Balance
		l    []api.Entry
		want []api.Balance
		e    api.Errno
	}{
		{nil, nil, nil, api.OK},
		{b, nil, b, api.OK},
		{b, []api.Entry{}, b, api.OK},
		{b, []api.Entry{one}, []api.Balance{has(card, 15), has(house, -15)}, api.OK},
		{nil, []api.Entry{one, two}, []api.Balance{has(shop, 3), has(card, 7), has(house, -10)}, api.OK},
		{b, []api.Entry{two, one, two}, []api.Balance{has(shop, 6), has(card, 9), has(house, -15)}, api.OK},
		{b, []api.Entry{two, back}, b, api.OK},
		{nil, []api.Entry{two, back}, nil, api.OK},
		{nil, []api.Entry{two, back, one}, []api.Balance{has(card, 10), has(house, -10)}, api.OK},
		{b, []api.Entry{one, uneven, two}, nil, api.ErrEven},
		{b, []api.Entry{uneven, one, two}, nil, api.ErrEven},
		{b, []api.Entry{one, two, uneven}, nil, api.ErrEven},
		{b, []api.Entry{one, not, two}, nil, api.ErrArg},
		{b, []api.Entry{one, uneven, not}, nil, api.ErrEven},
		{b, []api.Entry{one, not, uneven}, nil, api.ErrArg},
		{[]api.Balance{has(card, 5)}, []api.Entry{uneven}, nil, api.ErrArg},
		{[]api.Balance{has(card, 5)}, []api.Entry{one, uneven}, nil, api.ErrArg},
		// Too great on the way is too great, though the next one would take it back.
		{b, []api.Entry{move(house, card, most-5), move(house, card, 1), move(card, house, 2)}, nil, api.ErrOver},
		{b, []api.Entry{move(house, card, most-5), move(card, house, 2), move(house, card, 1)}, []api.Balance{has(card, most-1), has(house, 1-most)}, api.OK},
		{b, []api.Entry{move(house, card, most-5), move(house, card, 1), uneven}, nil, api.ErrOver},
	} {
		got, e := book.Posts(c.b, c.l...)
		if !slices.Equal(got, c.want) || e != c.e || e != api.OK && got != nil {
			t.Errorf("%d: Posts(%s; %s): %s, %d; want %s, %d", i, told(c.b), shown(c.l...), told(got), e, told(c.want), c.e)
		}
		checkPosts(t, c.b, c.l...)
	}
}

// P13.2: of no entries nothing is posted, and nothing refused, whatever the book is.
func TestPostsOfNone(t *testing.T) {
	for _, b := range [][]api.Balance{nil, sized(1), sized(2), sized(200), sized(201), {has(house, -5), has(claim, 5)}, {{}}} {
		if got, e := book.Posts(b); !slices.Equal(got, b) || e != api.OK {
			t.Errorf("Posts(%s): %s, %d", told(b), told(got), e)
		}
	}
}

// P13.2: a book that is full on the way is refused, though the next entry would make room.
func TestPostsWhereThereIsNoRoomOnTheWay(t *testing.T) {
	l := many()
	b := drawn(rand.New(rand.NewSource(5)), l[:199], 199)
	first := b[0]
	away, come := move(first.Account, b[1].Account, first.Amount), move(l[250], l[251], 5)
	if b[1].Amount+first.Amount == 0 {
		t.Fatal("two are gone")
	}
	if got, e := book.Posts(b, come, away); got != nil || e != api.ErrFull {
		t.Errorf("come, away: %s, %d", told(got), e)
	}
	if got, e := book.Posts(b, away, come); len(got) != 200 || e != api.OK {
		t.Errorf("away, come: %s, %d", told(got), e)
	}
	checkPosts(t, b, come, away)
	checkPosts(t, b, away, come)
}

// P13.2: books that grow from none to 200 balances and one more, in any order of accounts.
func TestPostsUntilItIsFull(t *testing.T) {
	l := many()
	for seed := range 4 {
		r := rand.New(rand.NewSource(int64(seed)))
		var b []api.Balance
		for i, at := range r.Perm(len(l) - 1)[:200] {
			x := move(house, l[at], int64(1+i))
			checkPosts(t, b, x)
			next, e := book.Post(b, x)
			if want := i < 199; (e == api.OK) != want || !want && e != api.ErrFull {
				t.Fatalf("%d balances: %d", len(b), e)
			}
			if e == api.OK {
				b = next
			}
			if !book.May(b) || len(b) != min(i+2, 200) {
				t.Fatalf("May(%s)", told(b))
			}
		}
	}
}

// P13.2: books and entries at random: few accounts, so that balances go to 0 often, or great amounts, so that some are none.
func TestPostsAtRandom(t *testing.T) {
	r := rand.New(rand.NewSource(6))
	often := map[api.Errno]int{}
	for _, bound := range []int64{4, 10, 1 << 20, 1 << 60, most} {
		for _, l := range [][]api.Account{accounts()[:3], accounts(), many()[140:170], many()} {
			for range 60 {
				b := drawn(r, l, 2+r.Intn(min(len(l), 200)-1))
				var entries []api.Entry
				for range r.Intn(12) {
					entries = append(entries, anyEntry(r, l, bound))
				}
				checkPosts(t, b, entries...)
				_, e := book.Posts(b, entries...)
				often[e]++
				for _, x := range entries {
					checkPosts(t, b, x)
				}
				for batch := range 5 {
					checkOf(t, entries, batch)
				}
			}
		}
	}
	if often[api.OK] < 100 || often[api.ErrOver] < 30 {
		t.Errorf("so many of each error: %v", often)
	}
}

// P13.3: Of, written out.
func TestOfWritten(t *testing.T) {
	in := func(batch int, x api.Entry) api.Entry {
		x.Batch = batch
		return x
	}
	one, two, three := move(house, card, 10), move(card, shop, 3), move(shop, claim, 1)
	uneven := lines(line(house, 5), line(claim, -4))
	several := []api.Entry{in(1, one), in(2, one), in(1, two), in(3, three), in(2, one), in(0, three)}
	refused := []api.Entry{in(1, one), in(2, uneven), in(3, api.Entry{}), in(1, two), in(-1, one), in(4, move(house, card, most)), in(4, one), in(4, uneven), in(2, api.Entry{})}
	for i, c := range []struct {
		l     []api.Entry
		batch int
		want  []api.Balance
		e     api.Errno
	}{
		{nil, 0, nil, api.OK},
		{nil, -1, nil, api.OK},
		{several, 1, []api.Balance{has(shop, 3), has(card, 7), has(house, -10)}, api.OK},
		{several, 2, []api.Balance{has(card, 20), has(house, -20)}, api.OK},
		{several, 3, []api.Balance{has(shop, -1), has(claim, 1)}, api.OK},
		{several, 0, []api.Balance{has(shop, -1), has(claim, 1)}, api.OK},
		// None is of that batch.
		{several, 4, nil, api.OK},
		{several, -1, nil, api.OK},
		{several, math.MaxInt, nil, api.OK},
		{several, math.MinInt, nil, api.OK},
		{several, 1<<32 + 1, nil, api.OK},
		// One that may not be counts in its own batch alone.
		{refused, 1, []api.Balance{has(shop, 3), has(card, 7), has(house, -10)}, api.OK},
		{refused, 2, nil, api.ErrEven},
		{refused, 3, nil, api.ErrArg},
		{refused, 4, nil, api.ErrOver},
		{refused, -1, nil, api.ErrArg},
		{refused, 5, nil, api.OK},
		{[]api.Entry{in(math.MaxInt32, one)}, math.MaxInt32, []api.Balance{has(card, 10), has(house, -10)}, api.OK},
		{[]api.Entry{in(math.MaxInt32+1, one)}, math.MaxInt32 + 1, nil, api.ErrArg},
	} {
		got, e := book.Of(c.l, c.batch)
		if !slices.Equal(got, c.want) || e != c.e || e != api.OK && got != nil {
			t.Errorf("%d: Of(%s; %d): %s, %d; want %s, %d", i, shown(c.l...), c.batch, told(got), e, told(c.want), c.e)
		}
		checkOf(t, c.l, c.batch)
	}
}

// P13.3: a batch of many entries has room for 200 balances, whatever other batches have.
func TestOfManyEntries(t *testing.T) {
	l := many()
	for _, n := range []int{198, 199, 200} {
		var entries []api.Entry
		for i := range n {
			for batch := range 3 {
				x := move(house, l[i+30*batch], int64(1+i))
				x.Batch = batch
				entries = append(entries, x)
			}
		}
		for batch := range 4 {
			checkOf(t, entries, batch)
			b, e := book.Of(entries, batch)
			want := n + 1
			if batch == 3 || n == 200 {
				want = 0
			}
			if len(b) != want || (e == api.ErrFull) != (n == 200 && batch < 3) {
				t.Errorf("%d entries, batch %d: %s, %d", n, batch, told(b), e)
			}
		}
	}
}

// P13.4: which way round entries are posted plays no part, where none is too great.
func TestWhichWayRound(t *testing.T) {
	r, all := rand.New(rand.NewSource(7)), many()
	for range 300 {
		b := drawn(r, all[:60], 2+r.Intn(40))
		var entries []api.Entry
		for range 1 + r.Intn(20) {
			entries = append(entries, anyEntry(r, all[30:90], 1<<30))
		}
		want, e := book.Posts(b, entries...)
		if e != api.OK || !book.May(want) {
			t.Fatalf("Posts(%s; %s): %s, %d", told(b), shown(entries...), told(want), e)
		}
		batch := entries[0].Batch
		of, e := book.Of(entries, batch)
		if e != api.OK || !book.May(of) {
			t.Fatalf("Of(%s; %d): %s, %d", shown(entries...), batch, told(of), e)
		}
		for range 5 {
			r.Shuffle(len(entries), func(i, j int) { entries[i], entries[j] = entries[j], entries[i] })
			for _, x := range entries {
				r.Shuffle(len(x.L), func(i, j int) { x.L[i], x.L[j] = x.L[j], x.L[i] })
			}
			if got, e := book.Posts(b, entries...); !slices.Equal(got, want) || e != api.OK {
				t.Fatalf("the other way round: %s, %d; want %s", told(got), e, told(want))
			}
			if got, e := book.Of(entries, batch); !slices.Equal(got, of) || e != api.OK {
				t.Fatalf("Of the other way round: %s, %d; want %s", told(got), e, told(of))
			}
		}
	}
}

// P13.4: entries posted in one go, or one by one, leave the same book.
func TestOneByOne(t *testing.T) {
	r := rand.New(rand.NewSource(8))
	for range 100 {
		var entries []api.Entry
		for range 20 {
			entries = append(entries, anyEntry(r, accounts(), 100))
		}
		var b []api.Balance
		for i, x := range entries {
			next, e := book.Post(b, x)
			at, f := book.Posts(nil, entries[:i+1]...)
			if e != api.OK || f != api.OK || !slices.Equal(next, at) {
				t.Fatalf("%s, %d; %s, %d", told(next), e, told(at), f)
			}
			for _, a := range append(accounts(), wrong()...) {
				if got, want := book.Get(next, a), book.Get(b, a)+entry.On(x, a); got != want {
					t.Fatalf("%s: %d, want %d", whose(a), got, want)
				}
			}
			b = next
		}
	}
}

// P13.4: an entry and its other way round leave a book as it was.
func TestThereAndBack(t *testing.T) {
	r := rand.New(rand.NewSource(9))
	for _, l := range [][]api.Account{accounts(), many()} {
		for range 300 {
			b := drawn(r, l, 2+r.Intn(min(len(l), 190)-1))
			x := anyEntry(r, l, 1<<30)
			if r.Intn(3) == 0 {
				// One of its balances goes, and comes again.
				x = move(b[0].Account, b[1].Account, b[0].Amount)
			}
			back, e := entry.Back(x)
			there, f := book.Post(b, x)
			got, g := book.Post(there, back)
			both, h := book.Posts(b, x, back)
			if e != api.OK || f != api.OK || g != api.OK || h != api.OK || !slices.Equal(got, b) || !slices.Equal(both, b) || slices.Equal(there, b) {
				t.Fatalf("%s; %s: %s, and %s, %d %d %d %d", told(b), shown(x), told(there), told(got), e, f, g, h)
			}
		}
	}
}

// P13.4, P0.1: what is answered is a book: its balances come to 0.
func TestWhatIsAnsweredMayBe(t *testing.T) {
	r, all := rand.New(rand.NewSource(10)), many()
	for range 100 {
		l := all[r.Intn(200):]
		b := drawn(r, l, 2+r.Intn(60))
		for range 10 {
			next, e := book.Post(b, anyEntry(r, l, 1<<40))
			if e != api.OK || !book.May(next) {
				t.Fatalf("%s: %s, %d", told(b), told(next), e)
			}
			checkMay(t, next)
			b = next
		}
	}
}

// R3: books that were answered ahead stay as they were, whatever is posted behind them.
func TestEarlierBooksStay(t *testing.T) {
	r, some := rand.New(rand.NewSource(11)), many()[:80]
	books, was := [][]api.Balance{spare(sized(30))}, [][]api.Balance{sized(30)}
	for range 300 {
		b := books[r.Intn(len(books))]
		next, e := book.Posts(b, anyEntry(r, some, 1<<30), anyEntry(r, some, 1<<30))
		if e != api.OK {
			t.Fatalf("Posts(%s): %d", told(b), e)
		}
		books, was = append(books, next), append(was, slices.Clone(next))
	}
	for i, b := range books {
		if !slices.Equal(b, was[i]) {
			t.Errorf("book %d: %s, was %s", i, told(b), told(was[i]))
		}
	}
}

// R3: entries may be changed behind the call.
func TestEntriesAreNotKept(t *testing.T) {
	l := []api.Entry{move(house, card, 10), move(card, shop, 3)}
	one, _ := book.Post(nil, l[0])
	both, _ := book.Posts(nil, l...)
	of, _ := book.Of(l, 7)
	for i := range l {
		l[i].L[0], l[i].L[1] = line(other, 9), line(inn, 8)
	}
	want := []api.Balance{has(shop, 3), has(card, 7), has(house, -10)}
	if !slices.Equal(one, []api.Balance{has(card, 10), has(house, -10)}) || !slices.Equal(both, want) || !slices.Equal(of, want) {
		t.Errorf("changed behind the call: %s; %s; %s", told(one), told(both), told(of))
	}
}

// R4: each call answers the same again, whatever was asked ahead of it.
func TestNothingIsKept(t *testing.T) {
	ask := func() string {
		r := rand.New(rand.NewSource(12))
		var s strings.Builder
		for range 100 {
			b := drawn(r, accounts(), 2+r.Intn(7))
			entries := []api.Entry{anyEntry(r, accounts(), most), anyEntry(r, accounts(), 10), {Batch: 3}, anyEntry(r, accounts(), 10)}
			one, e := book.Post(b, entries[0])
			two, f := book.Posts(b, entries[:2]...)
			of, g := book.Of(entries, 2)
			fmt.Fprintln(&s, book.May(b), book.Get(b, card), one, e, two, f, of, g)
		}
		return s.String()
	}
	if ask() != ask() {
		t.Error("asked again, they answer otherwise")
	}
}

// R1: long books, many entries, and long entries come to an end.
func TestLong(t *testing.T) {
	const n = 1 << 18
	long := make([]api.Balance, n)
	for i := range long {
		long[i] = has(shop, most)
	}
	if book.May(long) || book.Get(long, shop) != 0 {
		t.Error("a long book")
	}
	if got, e := book.Post(long, move(house, card, 5)); got != nil || e != api.ErrArg {
		t.Errorf("Post to a long book: %s, %d", told(got), e)
	}
	id := strings.Repeat("9", 1<<22)
	for kind := range 6 {
		a := api.Account{Kind: kind, ID: id}
		checkMay(t, []api.Balance{has(a, 5), has(house, -5)})
		checkPosts(t, nil, move(house, a, 5))
	}
	x := api.Entry{Batch: 7, L: make([]api.Line, n)}
	if got, e := book.Post(nil, x); got != nil || e != api.ErrArg {
		t.Errorf("Post of a long entry: %s, %d", told(got), e)
	}
	entries := make([]api.Entry, n)
	for i := range entries {
		entries[i] = move(house, card, 5)
	}
	want := []api.Balance{has(card, 5*n), has(house, -5*n)}
	if got, e := book.Posts(nil, entries...); !slices.Equal(got, want) || e != api.OK {
		t.Errorf("Posts of many entries: %s, %d", told(got), e)
	}
	if got, e := book.Of(entries, 7); !slices.Equal(got, want) || e != api.OK {
		t.Errorf("Of many entries: %s, %d", told(got), e)
	}
	if got, e := book.Of(entries, 8); len(got) != 0 || e != api.OK {
		t.Errorf("Of many entries of another batch: %s, %d", told(got), e)
	}
}
