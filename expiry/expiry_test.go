package expiry_test

import (
	"fmt"
	"math"
	"math/rand"
	"regexp"
	"slices"
	"sort"
	"strings"
	"testing"

	"bursar/api"
	"bursar/expiry"
)

const (
	most  = math.MaxInt
	least = math.MinInt
	late  = math.MaxInt32 // the last tick that an until may be
	rrn   = "0000000000AZ"
	acq   = "123456"
	card  = "4111111111111111"
	other = "5555555555554444"
)

// till is an open hold till a tick.
func till(until int) api.Hold {
	return api.Hold{RRN: rrn, Acq: acq, PAN: card, Approved: 100, Captured: 30, Until: until, Open: true}
}

// tills are open holds till ticks.
func tills(untils ...int) []api.Hold {
	var l []api.Hold
	for _, until := range untils {
		l = append(l, till(until))
	}
	return l
}

// keyed is a hold of another key.
func keyed(h api.Hold, reference, acquirer string) api.Hold {
	h.RRN, h.Acq = reference, acquirer
	return h
}

// over is a hold that is open no more.
func over(h api.Hold) api.Hold {
	h.Open = false
	return h
}

// wrong are holds till a tick that may not be, each for one reason alone.
func wrong(until int) []api.Hold {
	var l []api.Hold
	with := func(change func(h *api.Hold)) {
		h := till(until)
		change(&h)
		l = append(l, h, over(h))
	}
	for _, s := range []string{"", "00000000000", "0000000000000", "0000000000aZ", "0000000000A ", "00000\xff0000AZ", "@000000000AZ", "000000000\u0661AZ"} {
		with(func(h *api.Hold) { h.RRN = s })
	}
	for _, s := range []string{"", "12345", "1234567", "12345A", "\xff23456", "-12345"} {
		with(func(h *api.Hold) { h.Acq = s })
	}
	for _, s := range []string{"", "4111111111111112", "411111111111111", "41111111111111111", "411111111111111x", acq} {
		with(func(h *api.Hold) { h.PAN = s })
	}
	for _, n := range []int64{-1, 101, math.MinInt64, math.MaxInt64} {
		with(func(h *api.Hold) { h.Captured = n })
	}
	for _, n := range []int64{29, 0, -1, math.MinInt64} {
		with(func(h *api.Hold) { h.Approved = n })
	}
	for _, n := range []int{-1, least, late + 1, 1 << 32, 1<<32 + 5, most} {
		with(func(h *api.Hold) { h.Until = n })
	}
	whole, none := till(until), till(until)
	whole.Captured = whole.Approved
	none.Approved, none.Captured = 0, 0
	return append(l, whole, none, api.Hold{}, api.Hold{Open: true}, api.Hold{Until: until, Open: true})
}

// notOpen are holds till a tick that may be, and are open no more.
func notOpen(until int) []api.Hold {
	whole, none := over(till(until)), over(till(until))
	whole.Captured = whole.Approved
	none.Approved, none.Captured = 0, 0
	return []api.Hold{over(till(until)), whole, none}
}

// told is a hold, for what a test tells.
func told(h api.Hold) string {
	return fmt.Sprintf("{%.20q %.20q %.20q approved %d captured %d until %d open %v}", h.RRN, h.Acq, h.PAN, h.Approved, h.Captured, h.Until, h.Open)
}

// shown are holds, for what a test tells.
func shown(l []api.Hold) string {
	var s strings.Builder
	fmt.Fprintf(&s, "%d holds", len(l))
	for _, h := range l[:min(len(l), 6)] {
		s.WriteString(" " + told(h))
	}
	return s.String()
}

var (
	reference = regexp.MustCompile(`\A[0-9A-Z]{12}\z`)
	sixDigits = regexp.MustCompile(`\A[0-9]{6}\z`)
)

// doubles is what each digit counts where it is doubled, reckoned by hand.
var doubles = [10]int{0, 2, 4, 6, 8, 1, 3, 5, 7, 9}

// isPan tells it by chapter 2's and 11's words: 16 sound digits.
func isPan(id string) bool {
	if len(id) != 16 || strings.Trim(id, "0123456789") != "" {
		return false
	}
	sum := 0
	for i := 0; i < 16; i += 2 {
		sum += doubles[id[i]-'0'] + int(id[i+1]-'0')
	}
	return sum%10 == 0
}

// isOpen tells by chapter 14's words of a hold that it may be, and is open.
func isOpen(h api.Hold) bool {
	return h.Open && reference.MatchString(h.RRN) && sixDigits.MatchString(h.Acq) && isPan(h.PAN) &&
		h.Until >= 0 && h.Until <= 2147483647 && h.Captured >= 0 && h.Approved > h.Captured
}

// ordered is where those that may be, and are open, stand, in order of time by the chapter's words.
func ordered(l []api.Hold) []int {
	var places []int
	for at, h := range l {
		if isOpen(h) {
			places = append(places, at)
		}
	}
	// Three sorts that are stable, the least that is asked first.
	sort.SliceStable(places, func(i, j int) bool { return l[places[i]].Acq < l[places[j]].Acq })
	sort.SliceStable(places, func(i, j int) bool { return l[places[i]].RRN < l[places[j]].RRN })
	sort.SliceStable(places, func(i, j int) bool { return l[places[i]].Until < l[places[j]].Until })
	return places
}

// dueOf is what Due answers, by the chapter's words.
func dueOf(l []api.Hold, tick int) []int {
	var due []int
	for _, at := range ordered(l) {
		if tick > l[at].Until {
			due = append(due, at)
		}
	}
	return due
}

// lapsedOf is the list that Lapse answers, by the chapter's words.
func lapsedOf(l []api.Hold, tick int) []api.Hold {
	var next []api.Hold
	for _, h := range l {
		if isOpen(h) && tick > h.Until {
			h.Open = false
		}
		next = append(next, h)
	}
	return next
}

// checkFirst holds First and Next against the chapter's words.
func checkFirst(t *testing.T, l []api.Hold, n int) {
	t.Helper()
	was, all := slices.Clone(l), ordered(l)
	want := all[:max(0, min(n, len(all)))]
	if got := expiry.First(l, n); !slices.Equal(got, want) {
		t.Fatalf("First(%s, %d): %v, want %v", shown(l), n, got, want)
	}
	tick, e := 0, api.ErrNone
	if len(all) > 0 {
		tick, e = l[all[0]].Until+1, api.OK
	}
	if got, f := expiry.Next(l); got != tick || f != e {
		t.Fatalf("Next(%s): %d, %d; want %d, %d", shown(l), got, f, tick, e)
	}
	if !slices.Equal(l, was) {
		t.Fatalf("First or Next changed the holds to %s: %s", shown(l), shown(was))
	}
}

// checkTick holds Due and Lapse against the chapter's words.
func checkTick(t *testing.T, l []api.Hold, tick int) {
	t.Helper()
	was, due, next := slices.Clone(l), dueOf(l, tick), lapsedOf(l, tick)
	if got := expiry.Due(l, tick); !slices.Equal(got, due) {
		t.Fatalf("Due(%s, %d): %v, want %v", shown(l), tick, got, due)
	}
	got, which := expiry.Lapse(l, tick)
	if !slices.Equal(got, next) {
		t.Fatalf("Lapse(%s, %d): %s; want %s", shown(l), tick, shown(got), shown(next))
	}
	if !slices.Equal(which, due) {
		t.Fatalf("Lapse(%s, %d): %v, want %v", shown(l), tick, which, due)
	}
	if !slices.Equal(l, was) {
		t.Fatalf("Due or Lapse at %d changed the holds to %s: %s", tick, shown(l), shown(was))
	}
	// P15.3: none is due any more.
	if left := expiry.Due(got, tick); len(left) != 0 {
		t.Fatalf("Due behind Lapse(%s, %d): %v", shown(l), tick, left)
	}
	again, which := expiry.Lapse(got, tick)
	if !slices.Equal(again, got) || len(which) != 0 {
		t.Fatalf("Lapse behind Lapse(%s, %d): %s, %v", shown(l), tick, shown(again), which)
	}
}

// checkList holds all of them against the chapter's words, at each tick and number that counts.
func checkList(t *testing.T, l []api.Hold) {
	t.Helper()
	for _, n := range []int{least, -1, 0, 1, 2, 3, len(l) - 1, len(l), len(l) + 1, most} {
		checkFirst(t, l, n)
	}
	ticks := []int{least, -1, 0, 1, late, late + 1, late + 2, most}
	for _, h := range l[:min(len(l), 12)] {
		// One behind the greatest until would go around.
		if h.Until > least && h.Until < most {
			ticks = append(ticks, h.Until-1, h.Until, h.Until+1)
		}
	}
	for _, tick := range ticks {
		checkTick(t, l, tick)
	}
}

// anyHolds are holds of few ticks and keys, so that many are alike; some may not be, or are open no more.
func anyHolds(r *rand.Rand, n, bound int) []api.Hold {
	references, acquirers := []string{"000000000000", "00000000000A", "999999999999", "A00000000000", "ZZZZZZZZZZZZ"}, []string{"000000", "000001", "999999"}
	var l []api.Hold
	for range n {
		h := keyed(till(r.Intn(bound)), references[r.Intn(5)], acquirers[r.Intn(3)])
		h.PAN = []string{card, other}[r.Intn(2)]
		h.Approved = 1 + r.Int63n(1000)
		h.Captured = r.Int63n(h.Approved)
		switch r.Intn(8) {
		case 0:
			h.Open = false
		case 1:
			none := wrong(r.Intn(bound))
			h = none[r.Intn(len(none))]
		}
		l = append(l, h)
	}
	return l
}

func TestExamples(t *testing.T) {
	l := tills(5, 3, 5)
	if due := expiry.Due(l, 5); !slices.Equal(due, []int{1}) {
		t.Errorf("1: %v", due)
	}
	if tick, e := expiry.Next(l); tick != 4 || e != api.OK {
		t.Errorf("2: %d, %d", tick, e)
	}
	if due := expiry.Due(l, 6); !slices.Equal(due, []int{1, 0, 2}) {
		t.Errorf("3: %v", due)
	}
	checkList(t, l)
}

// P15.1: which are due at which tick, written out.
func TestDueWritten(t *testing.T) {
	for _, c := range []struct {
		l    []api.Hold
		tick int
		due  []int
	}{
		{nil, 5, nil}, {[]api.Hold{}, 5, nil}, {nil, most, nil},
		// Just at until, and just behind it.
		{tills(5), 4, nil}, {tills(5), 5, nil}, {tills(5), 6, []int{0}}, {tills(5), 7, []int{0}}, {tills(5), most, []int{0}},
		{tills(0), -1, nil}, {tills(0), 0, nil}, {tills(0), 1, []int{0}}, {tills(0), least, nil}, {tills(1), 0, nil},
		{tills(late), late - 1, nil}, {tills(late), late, nil}, {tills(late), late + 1, []int{0}}, {tills(late), most, []int{0}},
		{tills(5, 6), 5, nil}, {tills(5, 6), 6, []int{0}}, {tills(5, 6), 7, []int{0, 1}}, {tills(6, 5), 6, []int{1}}, {tills(6, 5), 7, []int{1, 0}},
		// By until as a number, not as digits.
		{tills(10, 9, 100, 2), 101, []int{3, 1, 0, 2}}, {tills(10, 9, 100, 2), 100, []int{3, 1, 0}}, {tills(10, 9, 100, 2), 10, []int{3, 1}},
		{tills(late, 0, 1<<16, 1<<8, 255), most, []int{1, 4, 3, 2, 0}},
		{tills(4, 4, 4, 4, 4), 5, []int{0, 1, 2, 3, 4}}, {tills(4, 4, 4, 4, 4), 4, nil},
		{tills(9, 8, 7, 6, 5, 4, 3, 2, 1, 0), 5, []int{9, 8, 7, 6, 5}},
		{[]api.Hold{over(till(5))}, 6, nil}, {[]api.Hold{over(till(5)), till(5)}, 6, []int{1}}, {[]api.Hold{till(5), over(till(4)), till(3)}, most, []int{2, 0}},
		{[]api.Hold{{}}, most, nil}, {tills(-1), most, nil}, {tills(-1, 5, least), 6, []int{1}}, {tills(late + 1), most, nil}, {tills(most), most, nil},
	} {
		if due := expiry.Due(c.l, c.tick); !slices.Equal(due, c.due) {
			t.Errorf("Due(%s, %d): %v, want %v", shown(c.l), c.tick, due, c.due)
		}
		checkList(t, c.l)
	}
}

// P15.1: those till one tick come by their keys, octet by octet, and then by where they stand.
func TestOrderWritten(t *testing.T) {
	h := till(5)
	for _, c := range []struct {
		l    []api.Hold
		want []int
	}{
		// The reference counts ahead of the acquirer.
		{[]api.Hold{keyed(h, "00000000000B", "000000"), keyed(h, "00000000000A", "999999")}, []int{1, 0}},
		{[]api.Hold{keyed(h, "00000000000A", "000001"), keyed(h, "00000000000A", "000000")}, []int{1, 0}},
		{[]api.Hold{keyed(h, "00000000000A", "100000"), keyed(h, "00000000000A", "099999"), keyed(h, "00000000000A", "000010")}, []int{2, 1, 0}},
		// A digit comes ahead of a letter, and the first octet that is another one tells.
		{[]api.Hold{keyed(h, "A00000000000", acq), keyed(h, "9ZZZZZZZZZZZ", acq), keyed(h, "0ZZZZZZZZZZZ", acq)}, []int{2, 1, 0}},
		{[]api.Hold{keyed(h, "ZZZZZZZZZZZZ", acq), keyed(h, "AZZZZZZZZZZZ", acq), keyed(h, "Z00000000000", acq)}, []int{1, 2, 0}},
		{[]api.Hold{keyed(h, "000000000002", acq), keyed(h, "000000000010", acq), keyed(h, "00000000000A", acq)}, []int{0, 2, 1}},
		// Of one key it is where they stand that tells.
		{[]api.Hold{h, h, h}, []int{0, 1, 2}},
		{[]api.Hold{keyed(h, "00000000000B", acq), keyed(h, "00000000000A", acq), keyed(h, "00000000000B", acq), keyed(h, "00000000000A", acq)}, []int{1, 3, 0, 2}},
		// Until counts ahead of the key, the key ahead of the place.
		{[]api.Hold{keyed(till(6), "000000000000", "000000"), keyed(till(5), "ZZZZZZZZZZZZ", "999999")}, []int{1, 0}},
		{[]api.Hold{keyed(till(6), "ZZZZZZZZZZZZ", acq), keyed(till(6), "000000000000", acq), keyed(till(5), "ZZZZZZZZZZZZ", acq), keyed(till(5), "000000000000", acq)}, []int{3, 2, 1, 0}},
		// Those between them that may not be, or are open no more, play no part.
		{[]api.Hold{keyed(h, "00000000000C", acq), over(keyed(h, "000000000000", acq)), keyed(h, "00000000000B", acq), keyed(h, "00000000000a", acq), keyed(h, "00000000000A", acq)}, []int{4, 2, 0}},
	} {
		if due := expiry.Due(c.l, 7); !slices.Equal(due, c.want) {
			t.Errorf("Due(%s, 7): %v, want %v", shown(c.l), due, c.want)
		}
		if first := expiry.First(c.l, len(c.l)); !slices.Equal(first, c.want) {
			t.Errorf("First(%s, %d): %v, want %v", shown(c.l), len(c.l), first, c.want)
		}
		if _, which := expiry.Lapse(c.l, 7); !slices.Equal(which, c.want) {
			t.Errorf("Lapse(%s, 7): %v, want %v", shown(c.l), which, c.want)
		}
		checkList(t, c.l)
	}
}

// P15.1: neither a hold's PAN nor its amounts play a part in the order of time.
func TestOrderHangsOnNothingElse(t *testing.T) {
	great, small, captured := till(5), till(5), till(5)
	great.Approved, small.Approved, captured.Captured = math.MaxInt64, 31, 99
	on := till(5)
	on.PAN = "0000000000000000"
	for _, l := range [][]api.Hold{{great, small, captured, on}, {on, captured, small, great}, {small, great, on, captured}} {
		if first := expiry.First(l, 4); !slices.Equal(first, []int{0, 1, 2, 3}) {
			t.Errorf("First(%s, 4): %v", shown(l), first)
		}
		checkList(t, l)
	}
}

// P15.1: all orders in which a few may stand have one order of time.
func TestEachOrder(t *testing.T) {
	sorted := []api.Hold{
		keyed(till(0), "ZZZZZZZZZZZZ", acq), keyed(till(1), "000000000000", acq), keyed(till(1), "000000000000", "999999"),
		keyed(till(1), "00000000000A", "000000"), keyed(till(2), "000000000000", acq), keyed(till(late), "000000000000", "000000"),
	}
	var each func(l, left []api.Hold)
	each = func(l, left []api.Hold) {
		for i, h := range left {
			each(append(slices.Clone(l), h), slices.Delete(slices.Clone(left), i, i+1))
		}
		if len(left) > 0 {
			return
		}
		var got []api.Hold
		for _, at := range expiry.First(l, most) {
			got = append(got, l[at])
		}
		if !slices.Equal(got, sorted) {
			t.Fatalf("First(%s): %s", shown(l), shown(got))
		}
		checkTick(t, l, 2)
	}
	each(nil, sorted)
}

// P15.1: the first ones, written out.
func TestFirstWritten(t *testing.T) {
	l := tills(5, 3, 5, 9, 1)
	mixed := []api.Hold{till(5), over(till(1)), till(-1), till(3), {}, till(5), keyed(till(2), "x", acq), till(late + 1)}
	for _, c := range []struct {
		l    []api.Hold
		n    int
		want []int
	}{
		{l, least, nil}, {l, least + 1, nil}, {l, -5, nil}, {l, -1, nil}, {l, 0, nil},
		{l, 1, []int{4}}, {l, 2, []int{4, 1}}, {l, 3, []int{4, 1, 0}}, {l, 4, []int{4, 1, 0, 2}}, {l, 5, []int{4, 1, 0, 2, 3}},
		{l, 6, []int{4, 1, 0, 2, 3}}, {l, 1 << 40, []int{4, 1, 0, 2, 3}}, {l, most, []int{4, 1, 0, 2, 3}},
		{mixed, least, nil}, {mixed, -1, nil}, {mixed, 0, nil}, {mixed, 1, []int{3}}, {mixed, 2, []int{3, 0}}, {mixed, 3, []int{3, 0, 5}}, {mixed, 4, []int{3, 0, 5}}, {mixed, most, []int{3, 0, 5}},
		{nil, least, nil}, {nil, 0, nil}, {nil, 1, nil}, {nil, most, nil}, {[]api.Hold{}, 1, nil},
		{[]api.Hold{over(till(5))}, 1, nil}, {[]api.Hold{{}}, most, nil}, {tills(-1, late+1), most, nil},
		{tills(0), 1, []int{0}}, {tills(late), 1, []int{0}}, {tills(late, 0), 1, []int{1}},
	} {
		if got := expiry.First(c.l, c.n); !slices.Equal(got, c.want) {
			t.Errorf("First(%s, %d): %v, want %v", shown(c.l), c.n, got, c.want)
		}
		checkFirst(t, c.l, c.n)
	}
}

// P15.2: when some hold's time is over, written out.
func TestNextWritten(t *testing.T) {
	for _, c := range []struct {
		l    []api.Hold
		tick int
		e    api.Errno
	}{
		{nil, 0, api.ErrNone}, {[]api.Hold{}, 0, api.ErrNone}, {[]api.Hold{{}}, 0, api.ErrNone}, {[]api.Hold{over(till(5))}, 0, api.ErrNone},
		{[]api.Hold{over(till(5)), till(-1), till(late + 1), {Open: true}}, 0, api.ErrNone},
		{tills(0), 1, api.OK}, {tills(1), 2, api.OK}, {tills(late - 1), late, api.OK}, {tills(late), late + 1, api.OK},
		{tills(5, 3, 5), 4, api.OK}, {tills(3, 5, 5), 4, api.OK}, {tills(5, 5, 3), 4, api.OK}, {tills(5, 5), 6, api.OK}, {tills(10, 9), 10, api.OK},
		{[]api.Hold{over(till(3)), till(5)}, 6, api.OK}, {[]api.Hold{till(5), over(till(3))}, 6, api.OK},
		{[]api.Hold{till(-1), till(5), {}}, 6, api.OK}, {[]api.Hold{keyed(till(3), "", acq), till(late)}, late + 1, api.OK},
		{[]api.Hold{keyed(till(5), "000000000000", acq), keyed(till(4), "ZZZZZZZZZZZZ", acq)}, 5, api.OK},
	} {
		if tick, e := expiry.Next(c.l); tick != c.tick || e != c.e {
			t.Errorf("Next(%s): %d, %d; want %d, %d", shown(c.l), tick, e, c.tick, c.e)
		}
		checkList(t, c.l)
	}
}

// P15.2: at the tick that Next tells one is due, and at none ahead of it.
func TestNextIsTheLeast(t *testing.T) {
	r := rand.New(rand.NewSource(1))
	for range 2000 {
		l := anyHolds(r, r.Intn(8), 12)
		tick, e := expiry.Next(l)
		if e != api.OK {
			if due := expiry.Due(l, most); e != api.ErrNone || tick != 0 || len(due) != 0 {
				t.Fatalf("Next(%s): %d, %d; due are %v", shown(l), tick, e, due)
			}
			continue
		}
		if due := expiry.Due(l, tick); len(due) == 0 || due[0] != expiry.First(l, 1)[0] {
			t.Fatalf("Next(%s): %d; due are %v", shown(l), tick, due)
		}
		for ahead := -1; ahead < tick; ahead++ {
			if due := expiry.Due(l, ahead); len(due) != 0 {
				t.Fatalf("Next(%s): %d; at %d due are %v", shown(l), tick, ahead, due)
			}
		}
	}
}

// P15.2: what comes of Lapse, written out.
func TestLapseWritten(t *testing.T) {
	none := wrong(1)
	for _, c := range []struct {
		l    []api.Hold
		tick int
		want []api.Hold
		due  []int
	}{
		{nil, 5, nil, nil}, {[]api.Hold{}, most, nil, nil},
		{tills(5), 5, tills(5), nil}, {tills(5), 6, []api.Hold{over(till(5))}, []int{0}}, {tills(5), least, tills(5), nil}, {tills(5), most, []api.Hold{over(till(5))}, []int{0}},
		{tills(0), 0, tills(0), nil}, {tills(0), 1, []api.Hold{over(till(0))}, []int{0}}, {tills(late), late, tills(late), nil}, {tills(late), late + 1, []api.Hold{over(till(late))}, []int{0}},
		{tills(5, 3, 5), 3, tills(5, 3, 5), nil},
		{tills(5, 3, 5), 5, []api.Hold{till(5), over(till(3)), till(5)}, []int{1}},
		{tills(5, 3, 5), 6, []api.Hold{over(till(5)), over(till(3)), over(till(5))}, []int{1, 0, 2}},
		{[]api.Hold{over(till(3)), till(4), till(6)}, 5, []api.Hold{over(till(3)), over(till(4)), till(6)}, []int{1}},
		{[]api.Hold{{}, till(4), till(-1), over(till(2)), till(1)}, 9, []api.Hold{{}, over(till(4)), till(-1), over(till(2)), over(till(1))}, []int{4, 1}},
		{none, most, none, nil}, {notOpen(1), most, notOpen(1), nil},
	} {
		got, due := expiry.Lapse(c.l, c.tick)
		if !slices.Equal(got, c.want) || !slices.Equal(due, c.due) {
			t.Errorf("Lapse(%s, %d): %s, %v; want %s, %v", shown(c.l), c.tick, shown(got), due, shown(c.want), c.due)
		}
		checkList(t, c.l)
	}
}

// P15.2: nothing of a hold is changed but that it is open no more.
func TestWhatLapseChanges(t *testing.T) {
	h := api.Hold{RRN: "A1B2C3D4E5F6", Acq: "000009", PAN: other, Approved: 12345, Captured: 678, Until: 7, Open: true}
	got, due := expiry.Lapse([]api.Hold{h}, 8)
	if want := over(h); !slices.Equal(got, []api.Hold{want}) || !slices.Equal(due, []int{0}) {
		t.Errorf("Lapse(%s, 8): %s, %v", told(h), shown(got), due)
	}
}

// One that may not be, or is not open, is never due, and plays no part beside those that may.
func TestThoseThatPlayNoPart(t *testing.T) {
	for _, h := range append(wrong(1), notOpen(1)...) {
		for _, tick := range []int{least, -1, 0, 1, 2, 3, late, late + 1, most} {
			if due := expiry.Due([]api.Hold{h}, tick); len(due) != 0 {
				t.Errorf("Due(%s, %d): %v", told(h), tick, due)
			}
			if got, due := expiry.Lapse([]api.Hold{h}, tick); !slices.Equal(got, []api.Hold{h}) || len(due) != 0 {
				t.Errorf("Lapse(%s, %d): %s, %v", told(h), tick, shown(got), due)
			}
		}
		if tick, e := expiry.Next([]api.Hold{h}); tick != 0 || e != api.ErrNone {
			t.Errorf("Next(%s): %d, %d", told(h), tick, e)
		}
		if first := expiry.First([]api.Hold{h}, most); len(first) != 0 {
			t.Errorf("First(%s): %v", told(h), first)
		}
		l := []api.Hold{h, till(5), h, till(4), h}
		if due := expiry.Due(l, 5); !slices.Equal(due, []int{3}) {
			t.Errorf("Due(%s, 5): %v", shown(l), due)
		}
		if due := expiry.Due(l, 6); !slices.Equal(due, []int{3, 1}) {
			t.Errorf("Due(%s, 6): %v", shown(l), due)
		}
		if tick, e := expiry.Next(l); tick != 5 || e != api.OK {
			t.Errorf("Next(%s): %d, %d", shown(l), tick, e)
		}
		if first := expiry.First(l, 2); !slices.Equal(first, []int{3, 1}) {
			t.Errorf("First(%s, 2): %v", shown(l), first)
		}
		got, due := expiry.Lapse(l, 5)
		if want := []api.Hold{h, till(5), h, over(till(4)), h}; !slices.Equal(got, want) || !slices.Equal(due, []int{3}) {
			t.Errorf("Lapse(%s, 5): %s, %v", shown(l), shown(got), due)
		}
		checkList(t, l)
	}
	all := append(wrong(1), notOpen(1)...)
	checkList(t, all)
	checkList(t, append(all, till(5)))
}

// P15.1, P15.2: lists at random, many of whose holds are alike.
func TestAtRandom(t *testing.T) {
	r := rand.New(rand.NewSource(2))
	for round := range 400 {
		bound := []int{1, 2, 6, 1000, late}[r.Intn(5)]
		l := anyHolds(r, round%41, bound)
		checkFirst(t, l, r.Intn(45)-2)
		checkTick(t, l, r.Intn(bound)+1)
		if round%8 == 0 {
			checkList(t, l)
		}
	}
}

// P15.3: behind Lapse none is due; as the tick goes on more are due, never fewer, and the earlier ones come first.
func TestAsTheTickGoesOn(t *testing.T) {
	r := rand.New(rand.NewSource(3))
	for range 150 {
		l := anyHolds(r, r.Intn(25), 10)
		var due []int
		for tick := -1; tick < 14; tick++ {
			now := expiry.Due(l, tick)
			if len(now) < len(due) || !slices.Equal(now[:len(due)], due) {
				t.Fatalf("Due(%s, %d): %v, and ahead of it %v", shown(l), tick, now, due)
			}
			due = now
			checkTick(t, l, tick)
		}
		if all := expiry.First(l, most); !slices.Equal(all, due) {
			t.Fatalf("First(%s): %v; at last due are %v", shown(l), all, due)
		}
	}
}

// P15.3: lapsed tick by tick they come as they come at once.
func TestTickByTick(t *testing.T) {
	r := rand.New(rand.NewSource(4))
	for range 300 {
		l := anyHolds(r, r.Intn(25), 10)
		now, came := l, []int(nil)
		for {
			tick, e := expiry.Next(now)
			if e != api.OK {
				break
			}
			next, due := expiry.Lapse(now, tick)
			if len(due) == 0 {
				t.Fatalf("Lapse(%s, %d), of Next: none", shown(now), tick)
			}
			now, came = next, append(came, due...)
		}
		at, due := expiry.Lapse(l, most)
		if !slices.Equal(came, due) || !slices.Equal(now, at) {
			t.Fatalf("Lapse(%s): tick by tick %v, at once %v", shown(l), came, due)
		}
	}
}

// R3: what was handed in stays as it was, also what lies behind the list, and answers share nothing with one another.
func TestNothingElseIsChanged(t *testing.T) {
	whole := tills(5, 3, 5, 1, 2)
	was := slices.Clone(whole)
	l := whole[:3]
	first, due := expiry.First(l, 3), expiry.Due(l, 9)
	next, which := expiry.Lapse(l, 9)
	if !slices.Equal(whole, was) {
		t.Fatalf("the holds were changed to %s", shown(whole))
	}
	// What a caller puts behind, or into, one answer is in no other.
	_ = append(next, till(77))
	_ = append(which, 77)
	for i := range which {
		which[i] = -1
	}
	if want := []int{1, 0, 2}; !slices.Equal(first, want) || !slices.Equal(due, want) || !slices.Equal(whole, was) {
		t.Errorf("first %v, due %v, of %s", first, due, shown(whole))
	}
	// Places are kept nowhere: a list that was changed behind a call is asked anew.
	l[0] = till(1)
	if due := expiry.Due(l, 2); !slices.Equal(due, []int{0}) {
		t.Errorf("Due(%s, 2): %v", shown(l), due)
	}
	if !slices.Equal(next, []api.Hold{over(till(5)), over(till(3)), over(till(5))}) {
		t.Errorf("Lapse's list was changed to %s", shown(next))
	}
}

// R4: each call answers the same again, whatever was asked ahead of it.
func TestNothingIsKept(t *testing.T) {
	ask := func() string {
		r := rand.New(rand.NewSource(5))
		var s strings.Builder
		for range 200 {
			l := anyHolds(r, r.Intn(20), 10)
			fmt.Fprintln(&s, expiry.Due(l, r.Intn(12)), expiry.First(l, r.Intn(20)), fmt.Sprint(expiry.Next(l)), fmt.Sprint(expiry.Lapse(l, r.Intn(12))))
		}
		return s.String()
	}
	if ask() != ask() {
		t.Error("asked again, they answer otherwise")
	}
}

// R1: long lists come to an end, in whatever order they stand, and so do holds of long texts.
func TestLong(t *testing.T) {
	const n = 1 << 16
	for name, until := range map[string]func(i int) int{
		"rising":  func(i int) int { return i },
		"falling": func(i int) int { return n - 1 - i },
		"alike":   func(int) int { return 5 },
		"mixed":   func(i int) int { return i * 40503 % n },
	} {
		l := make([]api.Hold, n)
		for i := range l {
			l[i] = till(until(i))
		}
		want := ordered(l)
		if first := expiry.First(l, most); !slices.Equal(first, want) {
			t.Errorf("%s: First of all is another one", name)
		}
		next, due := expiry.Lapse(l, n)
		if !slices.Equal(due, want) || !slices.Equal(next, lapsedOf(l, n)) {
			t.Errorf("%s: Lapse of all is another one", name)
		}
		if tick, e := expiry.Next(l); tick != l[want[0]].Until+1 || e != api.OK {
			t.Errorf("%s: Next: %d, %d", name, tick, e)
		}
	}
	long := strings.Repeat("0", 1<<20)
	for _, h := range []api.Hold{keyed(till(1), long, acq), keyed(till(1), rrn, long), {RRN: rrn, Acq: acq, PAN: long, Approved: 5, Until: 1, Open: true}} {
		checkTick(t, []api.Hold{h, till(1)}, 2)
		checkFirst(t, []api.Hold{h, till(1)}, 2)
	}
}
