package store_test

import (
	"bytes"
	"fmt"
	"maps"
	"math"
	"math/rand"
	"slices"
	"strconv"
	"strings"
	"testing"

	"bursar/api"
	"bursar/disk"
	"bursar/store"
)

var (
	small = api.Plan{Log: 6, Pages: 3}
	tiny  = api.Plan{Log: 2, Pages: 1}
)

// set and del are changes, and some are several of these.
func set(key, val string) api.Change      { return api.Change{Key: key, Val: val} }
func del(key string) api.Change           { return api.Change{Key: key, Del: true} }
func some(l ...api.Change) []api.Change   { return l }
func key(i int) string                    { return "k" + strconv.Itoa(1000+i) }
func shown(x any) string                  { text := fmt.Sprintf("%#v", x); return text[:min(len(text), 300)] }
func kept(l []api.Change) []api.Change    { return slices.Clone(l) }
func powerless(d api.Disk) api.Disk       { d.Off = true; return d }
func withLeft(d api.Disk, n int) api.Disk { d.Left = n; return d }

// sets are changes of so many keys, from one on.
func sets(from, n int) []api.Change {
	var l []api.Change
	for i := range n {
		l = append(l, set(key(from+i), strconv.Itoa(7*(from+i))))
	}
	return l
}

// sized are changes whose record has just so many octets, as few as do.
func sized(n int) []api.Change {
	var l []api.Change
	for n--; n > 0; {
		size := min(n, 3+5+60)
		if left := n - size; left > 0 && left < 3+5 {
			size -= 8
		}
		l = append(l, set(key(len(l)), strings.Repeat("v", size-3-5)))
		n -= size
	}
	return l
}

// with is a disk with octets from a sector on, by hand.
func with(d api.Disk, at int, b []byte) api.Disk {
	d = copyOf(d)
	lay(d.S, at, b)
	return d
}

// turned is a disk with one bit of an octet turned over.
func turned(d api.Disk, sector, octet int) api.Disk {
	d = copyOf(d)
	d.S[sector][octet] ^= 1 << (octet % 8)
	return d
}

// has: what there is in a store is just this, however it is asked for.
func has(t *testing.T, what string, s *store.Store, want map[string]string) {
	t.Helper()
	if l := s.Range("", ""); !slices.Equal(l, byKey(want)) {
		t.Errorf("%s: there is %d: %s; want %d: %s", what, len(l), shown(l), len(want), shown(byKey(want)))
	}
	for key, val := range want {
		if got, e := s.Get(key); got != val || e != api.OK {
			t.Errorf("%s: Get(%q): %q, %d; want %q", what, key, got, e, val)
		}
	}
	for _, key := range []string{"", "none", "k", strings.Repeat("x", 25)} {
		if got, e := s.Get(key); got != "" || e != api.ErrNone {
			t.Errorf("%s: Get(%q): %q, %d", what, key, got, e)
		}
	}
}

// diskShown is where two disks differ.
func diskShown(got, want api.Disk) string {
	if len(got.S) != len(want.S) || len(got.W) != len(want.W) || got.Left != want.Left || got.Off != want.Off {
		return fmt.Sprintf("%d sectors, %d wait, %d left, off %t; want %d, %d, %d, %t", len(got.S), len(got.W), got.Left, got.Off, len(want.S), len(want.W), want.Left, want.Off)
	}
	for i := range got.S {
		if !bytes.Equal(got.S[i], want.S[i]) {
			return fmt.Sprintf("sector %d: %v; want %v", i, got.S[i], want.S[i])
		}
	}
	return fmt.Sprintf("what waits: %s; want %s", shown(got.W), shown(want.W))
}

// agrees: a store is as the one by hand, octet for octet.
func agrees(t *testing.T, what string, s *store.Store, h *hand) {
	t.Helper()
	if s.Gen() != h.gen {
		t.Errorf("%s: Gen %d, want %d", what, s.Gen(), h.gen)
	}
	if d := s.Disk(); !sameDisk(d, h.disk) {
		t.Errorf("%s: %s", what, diskShown(d, h.disk))
	}
	has(t, what, s, h.pairs)
}

// format is a new store, and the one by hand.
func format(t *testing.T, p api.Plan) (*store.Store, *hand) {
	t.Helper()
	s, e := store.Format(p)
	if e != api.OK || s == nil {
		t.Fatalf("Format(%v): %d", p, e)
	}
	return s, formatted(p)
}

// checkCommit commits to both, and they agree.
func checkCommit(t *testing.T, what string, s *store.Store, h *hand, l []api.Change) api.Errno {
	t.Helper()
	before := kept(l)
	want := h.commit(l)
	if e := s.Commit(l); e != want {
		t.Errorf("%s: Commit of %d changes, %s: %d, want %d", what, len(l), shown(l), e, want)
	}
	if !slices.Equal(l, before) {
		t.Errorf("%s: Commit changed what was handed in: %s", what, shown(before))
	}
	agrees(t, what, s, h)
	return want
}

// checkCheckpoint writes a checkpoint of both, and they agree.
func checkCheckpoint(t *testing.T, what string, s *store.Store, h *hand) api.Errno {
	t.Helper()
	want := h.checkpoint()
	if e := s.Checkpoint(); e != want {
		t.Errorf("%s: Checkpoint: %d, want %d", what, e, want)
	}
	agrees(t, what, s, h)
	return want
}

// checkOpen opens a disk, as by hand, and leaves it as it was.
func checkOpen(t *testing.T, what string, d api.Disk, p api.Plan) (*store.Store, *hand, api.Errno) {
	t.Helper()
	before := copyOf(d)
	s, e := store.Open(d, p)
	h, want := opened(d, p)
	if e != want || (s == nil) != (want != api.OK) {
		t.Errorf("%s: Open: %t, %d; want %d", what, s != nil, e, want)
		return nil, nil, api.ErrBad
	}
	if !sameDisk(d, before) {
		t.Errorf("%s: Open changed the disk: %s", what, diskShown(d, before))
	}
	if s != nil {
		agrees(t, what, s, h)
	}
	return s, h, want
}

// refused: a disk is not opened.
func refused(t *testing.T, what string, d api.Disk, p api.Plan, want api.Errno) {
	t.Helper()
	before := copyOf(d)
	if s, e := store.Open(d, p); s != nil || e != want {
		t.Errorf("%s: Open: %t, %d; want %d", what, s != nil, e, want)
	}
	if !sameDisk(d, before) {
		t.Errorf("%s: Open changed the disk", what)
	}
}

// edgePlans are those that may be, at the edges; noPlans may not.
var (
	edgePlans = []api.Plan{{Log: 2, Pages: 1}, {Log: 500, Pages: 1}, {Log: 2, Pages: 200}, {Log: 447, Pages: 200}, {Log: 500, Pages: 193}, {Log: 10, Pages: 3}}
	noPlans   = []api.Plan{
		{}, {Log: 1, Pages: 1}, {Log: 0, Pages: 1}, {Log: 501, Pages: 1}, {Log: 2}, {Log: 2, Pages: 201}, {Log: 448, Pages: 200}, {Log: 500, Pages: 194},
		{Log: -1, Pages: 5}, {Log: 5, Pages: -1}, {Log: math.MinInt, Pages: 1}, {Log: math.MaxInt, Pages: 1}, {Log: 2, Pages: math.MinInt}, {Log: 2, Pages: math.MaxInt},
		{Log: math.MinInt, Pages: math.MinInt}, {Log: math.MaxInt, Pages: math.MaxInt}, {Log: 2, Pages: 1 << 61}, {Log: 2, Pages: 1 << 60}}
)

// P10.1: Format.
func TestFormat(t *testing.T) {
	for _, p := range edgePlans {
		s, h := format(t, p)
		agrees(t, fmt.Sprint(p), s, h)
		if s.Gen() != 1 || s.Disk().Left != -1 || len(s.Disk().W) != 0 || s.Disk().Off {
			t.Errorf("Format(%v): Gen %d, %s", p, s.Gen(), diskShown(s.Disk(), h.disk))
		}
		checkOpen(t, fmt.Sprint(p), s.Disk(), p)
	}
	for _, p := range noPlans {
		if s, e := store.Format(p); s != nil || e != api.ErrArg {
			t.Errorf("Format(%v): %t, %d", p, s != nil, e)
		}
	}
}

// P10.1: a new disk, octet for octet, and what two commits and a checkpoint make of it.
func TestOctets(t *testing.T) {
	s, _ := format(t, api.Plan{Log: 4, Pages: 1})
	d := s.Disk()
	first := append([]byte("bsup\x00\x00\x00\x00\x00\x01\x00\x00\x00\x00\x00\x00\x01\x00\x01"), make([]byte, 41)...)
	if len(d.S) != 26 || !bytes.Equal(d.S[1], append(first, sum(first)...)) {
		t.Errorf("of %d sectors the super's: %q", len(d.S), d.S[1])
	}
	page := make([]byte, 508)
	if !bytes.Equal(octets(d.S, 6, 8), append(page, sum(page)...)) {
		t.Errorf("the empty leaf: %v", octets(d.S, 6, 8))
	}
	for i, b := range d.S {
		if (i < 1 || i > 1 && i < 6 || i > 13) && !bytes.Equal(b, make([]byte, 64)) {
			t.Errorf("sector %d: %v", i, b)
		}
	}
	if e := s.Commit(some(set("a", "xy"), del("b"))); e != api.OK {
		t.Fatal(e)
	}
	record := "\x02\x00\x01a\x02xy\x01\x01b\x00"
	frame := append([]byte("burs\x00\x00\x00\x00\x00\x01\x00\x0b"), sum([]byte(record))...)
	frame = append(frame, record...)
	frame = append(frame, sum(frame)...)
	if b := s.Disk().S[2]; !bytes.Equal(b, append(frame, make([]byte, 64-len(frame))...)) {
		t.Errorf("the record: %q", b)
	}
	if e := s.Checkpoint(); e != api.OK {
		t.Fatal(e)
	}
	second := append([]byte("bsup\x00\x00\x00\x00\x00\x02\x01\x00\x00\x00\x00\x00\x02\x00\x01"), make([]byte, 41)...)
	if b := s.Disk().S[0]; !bytes.Equal(b, append(second, sum(second)...)) {
		t.Errorf("the second super: %q", b)
	}
	leaf := append([]byte("\x00\x01\x01a\x02xy"), make([]byte, 501)...)
	if b := octets(s.Disk().S, 18, 8); !bytes.Equal(b, append(leaf, sum(leaf)...)) {
		t.Errorf("the leaf of half 1: %q", b)
	}
	if e := s.Commit(some(set("c", ""))); e != api.OK || string(s.Disk().S[14][:12]) != "burs\x00\x00\x00\x00\x00\x02\x00\x05" {
		t.Errorf("the record in half 1: %d, %q", e, s.Disk().S[14])
	}
}

// P10.1: what Open refuses, and in which order.
func TestOpenRefuses(t *testing.T) {
	good := formatted(small).disk
	for _, p := range noPlans {
		refused(t, fmt.Sprint(p), good, p, api.ErrArg)
		refused(t, fmt.Sprint(p), api.Disk{}, p, api.ErrArg)
		refused(t, fmt.Sprint(p), powerless(good), p, api.ErrArg)
	}
	for _, p := range []api.Plan{{Log: 5, Pages: 3}, {Log: 7, Pages: 3}, {Log: 6, Pages: 2}, {Log: 6, Pages: 4}} {
		refused(t, fmt.Sprint(p), good, p, api.ErrArg)
		refused(t, fmt.Sprint(p), powerless(good), p, api.ErrArg)
	}
	cut, long, astray, below, left := copyOf(good), copyOf(good), copyOf(good), copyOf(good), copyOf(good)
	cut.S[len(cut.S)-1] = make([]byte, 63)
	long.W = []api.Pending{{At: 0, B: make([]byte, 65)}}
	astray.W = []api.Pending{{At: len(good.S), B: make([]byte, 64)}}
	below.W = []api.Pending{{At: -1, B: make([]byte, 64)}}
	left.Left = -2
	for i, d := range []api.Disk{{}, cut, long, astray, below, left, {S: good.S[1:], Left: -1}, {S: append(slices.Clone(good.S), make([]byte, 64)), Left: -1}} {
		refused(t, fmt.Sprint("disk ", i), d, small, api.ErrArg)
		refused(t, fmt.Sprint("disk ", i, " without power"), powerless(d), small, api.ErrArg)
	}
	refused(t, "no power", powerless(good), small, api.ErrPower)
	none := api.Disk{S: noughts(sizeOf(small)), Left: -1}
	refused(t, "no power, and no super", powerless(none), small, api.ErrPower)
	refused(t, "noughts", none, small, api.ErrNone)
}

// P10.1: without a super that counts there is nothing; else the one whose Gen is the greater says where it is.
func TestOpenSupers(t *testing.T) {
	good := formatted(small).disk
	no := make([]byte, 64)
	for i, both := range [][2][]byte{
		{no, no},
		{superOf(1, 0, 1, 1), no}, // not in its place
		{no, superOf(2, 0, 1, 1)},
		{superOf(0, 0, 1, 1), no},
		{no, superOf(1, 2, 1, 1)},
		{no, superOf(1, 0, 0, 1)},
		{no, superOf(1, 0, 1, 201)},
		{no, append(superOf(1, 0, 1, 1)[:63], 0)},
	} {
		refused(t, fmt.Sprint("supers ", i), with(good, 0, slices.Concat(both[:]...)), small, api.ErrNone)
	}
	for octet := range 64 {
		refused(t, "a super turned over", turned(good, 1, octet), small, api.ErrNone)
	}
	two := with(with(good, pageAt(small, 1, 0), leafOf([]api.Pair{{Key: "one", Val: "1"}})), pageAt(small, 0, 0), leafOf([]api.Pair{{Key: "nought", Val: "0"}}))
	for _, c := range []struct {
		zero, one []byte
		gen       int
		want      string
	}{
		{superOf(2, 1, 1, 1), superOf(1, 0, 1, 1), 2, "one"},
		{superOf(2, 0, 1, 1), superOf(3, 1, 1, 1), 3, "one"},
		{superOf(2, 1, 1, 1), superOf(3, 0, 1, 1), 3, "nought"},
		{superOf(2, 0, 1, 1), superOf(1, 0, 1, 1), 2, "nought"}, // both of one half
		{superOf(4, 1, 1, 1), superOf(1, 0, 1, 1), 4, "one"},
		{superOf(4, 1, 1, 1), no, 4, "one"},
		{superOf(4, 1, 1, 1), superOf(6, 0, 1, 1), 4, "one"}, // the greater one is not in its place
		{no, superOf(1<<48-1, 1, 1, 1), 1<<48 - 1, "one"},
		{superOf(1<<48-2, 0, 1, 1), superOf(1<<48-1, 1, 1, 1), 1<<48 - 1, "one"},
		{superOf(1<<48-2, 0, 1, 1), superOf(9, 1, 1, 1), 1<<48 - 2, "nought"},
	} {
		what := fmt.Sprint("supers of Gen ", c.gen)
		s, _, e := checkOpen(t, what, with(two, 0, slices.Concat(c.zero, c.one)), small)
		if e != api.OK {
			t.Errorf("%s: %d", what, e)
			continue
		}
		if _, e := s.Get(c.want); e != api.OK || s.Gen() != c.gen {
			t.Errorf("%s: Gen %d, Get(%q): %d", what, s.Gen(), c.want, e)
		}
	}
}

// treeOn is a disk whose half 0 has these pages, the super of so many.
func treeOn(p api.Plan, count int, pages ...[]byte) api.Disk {
	d := formatted(p).disk
	lay(d.S, 1, superOf(1, 0, 1, count))
	lay(d.S, pageAt(p, 0, 0), bytes.Join(pages, nil))
	return d
}

// pairsOf are so many pairs.
func pairsOf(n int) []api.Pair {
	var l []api.Pair
	for i := range n {
		l = append(l, api.Pair{Key: key(i), Val: strings.Repeat("v", i%61)})
	}
	return l
}

// P10.1: pages that are a tree, and those that are none.
func TestOpenTree(t *testing.T) {
	p := api.Plan{Log: 3, Pages: 12}
	for _, n := range []int{0, 1, 4, 5, 6, 10, 40, 41, 45} {
		pages := pagesOf(pairsOf(n))
		s, _, e := checkOpen(t, fmt.Sprint(n, " pairs"), treeOn(p, len(pages), pages...), p)
		if e != api.OK || !slices.Equal(s.Range("", ""), pairsOf(n)) {
			t.Errorf("%d pairs: %d", n, e)
		}
	}
	six := pagesOf(pairsOf(6))
	long := [][]byte{leafOf([]api.Pair{{Key: "a", Val: strings.Repeat("v", 61)}}), leafOf([]api.Pair{{Key: strings.Repeat("k", 25)}}), leafOf([]api.Pair{{Key: ""}}),
		leafOf([]api.Pair{{Key: "b"}, {Key: "a"}}), leafOf([]api.Pair{{Key: "a"}, {Key: "a"}})}
	for i, d := range []api.Disk{
		treeOn(p, 0, six...),
		treeOn(p, 1, make([]byte, 512)),
		treeOn(p, 2, six...),
		treeOn(p, 3, six[1], six[0], six[2]),
		treeOn(p, 3, six[0], six[2], six[1]),
		treeOn(p, 3, six[0], six[0], six[2]),
		treeOn(p, 3, six[0], six[1], leafOf(nil)),
		treeOn(p, 4, append(six, six[2])...),
		treeOn(p, 4, append(six, leafOf(nil))...),
		treeOn(p, 3, leafOf(pairsOf(4)), leafOf(pairsOf(6)[4:]), six[2]),
		treeOn(p, 13, pagesOf(pairsOf(45))...),
		treeOn(p, 1, long[0]), treeOn(p, 1, long[1]), treeOn(p, 1, long[2]), treeOn(p, 1, long[3]), treeOn(p, 1, long[4]),
	} {
		refused(t, fmt.Sprint("pages ", i), d, p, api.ErrBad)
	}
	// Of more pages than the plan has, though they would be a tree, and lie in order on the disk.
	few := api.Plan{Log: 16, Pages: 2}
	refused(t, "pages behind the plan's", treeOn(few, 3, six...), few, api.ErrBad)
	last := treeOn(few, 3)
	lay(last.S, 1, superOf(1, 1, 1, 3))
	lay(last.S, pageAt(few, 1, 0), octets(append(slices.Clone(last.S), noughts(64)...), 0, 16))
	refused(t, "pages behind the disk", last, few, api.ErrBad)
	most := treeOn(few, 200)
	refused(t, "200 pages of 2", most, few, api.ErrBad)
	for sector := range 24 {
		for octet := range 64 {
			refused(t, "a page turned over", turned(treeOn(p, 3, six...), pageAt(p, 0, 0)+sector, octet), p, api.ErrBad)
		}
	}
}

// logOn is a disk whose half 0 has these records in its log, of a plan.
func logOn(p api.Plan, records ...[]byte) api.Disk {
	d := formatted(p).disk
	at := logAt(p, 0)
	for i, data := range records {
		b := frameOf(1+i, data)
		lay(d.S, at, b)
		at += len(b) / 64
	}
	return d
}

// notRecords are octets that are no commit's record.
func notRecords() [][]byte {
	key24, val60 := strings.Repeat("k", 24), strings.Repeat("v", 60)
	l := [][]byte{
		nil, {0}, {1}, {1, 0}, {1, 0, 1}, {1, 0, 1, 'a'}, {1, 0, 1, 'a', 1}, {1, 0, 1, 'a', 2, 'x'}, {1, 0, 2, 'a', 0}, {1, 0, 255}, {1, 1, 1, 'a'},
		{1, 0, 1, 'a', 0, 0},            // one octet more
		{1, 0, 1, 'a', 0, 0, 1, 'b', 0}, // one change more
		{2, 0, 1, 'a', 0},               // one change fewer
		{0, 0, 1, 'a', 0},
		{255, 0, 1, 'a', 0},
		{1, 2, 1, 'a', 0}, {1, 255, 1, 'a', 0}, {1, 3, 1, 'a', 1, 'x'}, // a change is neither
		{1, 1, 1, 'a', 1, 'x'},                        // a Del of a value
		{1, 0, 0, 0}, {1, 1, 0, 0}, {1, 0, 0, 1, 'x'}, // no key
		recordOf(some(set(key24+"k", ""))), recordOf(some(del(key24 + "k"))), recordOf(some(set("a", val60+"v"))),
		recordOf(some(set("a", "1"), set("", "2"))),
		recordOf(sets(0, 251)), recordOf(sets(0, 255)),
		append(recordOf(sets(0, 250)), 0),
		recordOf(sets(0, 256)), // how many goes around to 0
		recordOf(sets(0, 257)),
	}
	whole := recordOf(some(set("ab", "xyz"), del("c"), set(key24, val60)))
	for cut := range whole {
		l = append(l, whole[:cut])
	}
	return l
}

// P10.1: records that are some, and those that are none.
func TestOpenLog(t *testing.T) {
	p := api.Plan{Log: 120, Pages: 60}
	first := some(set("a", "1"), set("b", "2"))
	for i, l := range [][]api.Change{
		some(set("a", "x")), some(del("a")), some(del("none")), some(set("c", "1"), set("c", "2"), del("c"), set("c", "3"), del("b")),
		some(set(strings.Repeat("\xff", 24), strings.Repeat("\x00", 60))), some(set("\x00", "")), sets(0, 250),
	} {
		s, _, e := checkOpen(t, fmt.Sprint("changes ", i), logOn(p, recordOf(first), recordOf(l)), p)
		if want := behind(map[string]string{"a": "1", "b": "2"}, l); e != api.OK || !maps.Equal(all(s), want) {
			t.Errorf("changes %d: %d, want %s", i, e, shown(want))
		}
	}
	good := recordOf(first)
	for i, data := range notRecords() {
		refused(t, fmt.Sprint("record ", i, ": ", shown(data)), logOn(p, data), p, api.ErrBad)
		refused(t, fmt.Sprint("record ", i, " in the middle"), logOn(p, good, data, good), p, api.ErrBad)
		refused(t, fmt.Sprint("record ", i, " at the end"), logOn(p, good, good, data), p, api.ErrBad)
	}
	// Behind where the log ends there are no records, whatever stands there.
	bad := []byte{0}
	for i, d := range []api.Disk{
		with(logOn(p, good), logAt(p, 0)+2, frameOf(2, bad)),
		with(logOn(p, good), logAt(p, 0)+1, frameOf(3, bad)),
		with(logOn(p, good), logAt(p, 0)+1, frameOf(1, bad)),
		with(logOn(p), logAt(p, 1), frameOf(1, bad)),
		with(logOn(p), logAt(p, 0), append(frameOf(1, bad)[:63], 1)),
	} {
		if _, _, e := checkOpen(t, fmt.Sprint("log ", i), d, p); e != api.OK {
			t.Errorf("log %d: %d", i, e)
		}
	}
	short := api.Plan{Log: 2, Pages: 1}
	full := with(formatted(short).disk, logAt(short, 0), append(frameOf(1, recordOf(some(set("a", "1")))), frameOf(2, bad)...))
	if s, _, e := checkOpen(t, "without room behind", full, short); e != api.OK || !maps.Equal(all(s), map[string]string{"a": "1"}) {
		t.Errorf("without room behind: %d", e)
	}
}

// all is what there is.
func all(s *store.Store) map[string]string {
	m := map[string]string{}
	if s == nil {
		return nil
	}
	for _, p := range s.Range("", "") {
		m[p.Key] = p.Val
	}
	return m
}

// P10.1: the log's numbers begin where the super says, and its changes come behind the tree.
func TestOpenTreeAndLog(t *testing.T) {
	for _, half := range []int{0, 1} {
		d := formatted(small).disk
		lay(d.S, 0, superOf(8, half, 70, 3))
		lay(d.S, pageAt(small, half, 0), bytes.Join(pagesOf(pairsOf(6)), nil))
		lay(d.S, logAt(small, half), append(frameOf(70, recordOf(some(set(key(1), "x"), del(key(2))))), frameOf(71, recordOf(some(set(key(2), "y"), del(key(0)))))...))
		s, h, e := checkOpen(t, "both", d, small)
		want := behind(map[string]string{}, some(set(key(1), "x"), set(key(2), "y"), set(key(3), "vvv"), set(key(4), "vvvv"), set(key(5), "vvvvv")))
		if e != api.OK || !maps.Equal(all(s), want) || s.Gen() != 8 {
			t.Fatalf("half %d: %d, %s", half, e, shown(all(s)))
		}
		checkCommit(t, "behind both", s, h, some(set("z", "1")))
		if b := s.Disk().S[logAt(small, half)+2]; b[9] != 72 {
			t.Errorf("half %d: number %d", half, b[9])
		}
		checkCheckpoint(t, "behind both", s, h)
		checkOpen(t, "behind both", s.Disk(), small)
	}
}

// P10.1: what waits is read, too; and a disk with nothing left has power.
func TestOpenWaits(t *testing.T) {
	d := formatted(small).disk
	d.W = []api.Pending{{At: logAt(small, 0), B: frameOf(1, []byte{0})}, {At: logAt(small, 0), B: frameOf(1, recordOf(some(set("a", "1"))))}}
	for _, left := range []int{-1, 0, 1, 20} {
		s, h, e := checkOpen(t, "what waits", withLeft(d, left), small)
		if e != api.OK || !maps.Equal(all(s), map[string]string{"a": "1"}) {
			t.Fatalf("what waits, %d left: %d", left, e)
		}
		checkCommit(t, "what waits", s, h, some(set("b", "2")))
		checkCheckpoint(t, "what waits", s, h)
	}
}

// P10.2: the changes that may be committed, and those that may not.
func TestCommitArgs(t *testing.T) {
	p := api.Plan{Log: 110, Pages: 70}
	key24, val60 := strings.Repeat("k", 24), strings.Repeat("v", 60)
	for _, l := range [][]api.Change{
		some(set("a", "")), some(set("a", "1")), some(del("a")), some(set(key24, val60)), some(del(key24)), some(set("\x00", "\x00")), some(set("\xff", "\xff")),
		sets(0, 249), sets(0, 250), some(set("a", "1"), set("a", "2")), some(set("a", "1"), del("a")), some(del("a"), set("a", "1")), some(del("a"), del("a")),
	} {
		s, h := format(t, p)
		if e := checkCommit(t, "may be", s, h, l); e != api.OK {
			t.Errorf("Commit of %s: %d", shown(l), e)
		}
		checkOpen(t, "may be", s.Disk(), p)
	}
	for _, l := range [][]api.Change{
		nil, {}, some(set("", "")), some(set("", "1")), some(del("")), some(set(key24+"k", "")), some(del(key24 + "k")), some(set("a", val60+"v")),
		some(api.Change{Key: "a", Val: "1", Del: true}), sets(0, 251), sets(0, 1000), slices.Repeat(some(set("a", "")), 251), slices.Repeat(some(del("a")), 256),
		append(sets(0, 249), set("", "")), append(some(set("a", val60+"v")), sets(0, 9)...), append(sets(0, 3), api.Change{Key: "a", Val: "1", Del: true}),
		some(set(strings.Repeat("k", 1<<16), "")), some(set("a", strings.Repeat("v", 1<<16))), append(sized(6001), set("", "")),
	} {
		s, h := format(t, p)
		checkCommit(t, "first", s, h, some(set("a", "1")))
		if e := checkCommit(t, "may not be", s, h, l); e != api.ErrArg {
			t.Errorf("Commit of %s: %d", shown(l), e)
		}
		checkCommit(t, "behind it", s, h, some(set("b", "1")))
	}
}

// P10.2: a record of just MaxData octets, and one more.
func TestCommitMaxData(t *testing.T) {
	p := api.Plan{Log: 110, Pages: 70}
	for n, want := range map[int]api.Errno{5900: api.OK, 5999: api.OK, 6000: api.OK, 6001: api.ErrFull, 6002: api.ErrFull, 9000: api.ErrFull} {
		s, h := format(t, p)
		l := sized(n)
		if size := len(recordOf(l)); size != n || !mayBe(l) {
			t.Fatalf("%d changes have %d octets, not %d", len(l), size, n)
		}
		checkCommit(t, "first", s, h, some(set("a", "1")))
		if e := checkCommit(t, "great", s, h, l); e != want || s.Gen() != 1 {
			t.Errorf("Commit of %d octets: %d, Gen %d", n, e, s.Gen())
		}
		checkOpen(t, "great", s.Disk(), p)
	}
	// In a log that has no room at all for it, too, the record is asked first: no checkpoint is written.
	s, h := format(t, tiny)
	if e := checkCommit(t, "too great", s, h, sized(6001)); e != api.ErrFull || s.Gen() != 1 {
		t.Errorf("Commit of 6001 octets in a short log: %d, Gen %d", e, s.Gen())
	}
}

// P10.2: a log with just room; without room, so that a checkpoint comes first; and without room behind it, too.
func TestCommitRoom(t *testing.T) {
	for _, c := range []struct {
		log   int
		sizes []int // octets of the records
		gens  []int // behind each of them; below 0 of those for which there is no room
	}{
		{2, []int{44, 44, 44}, []int{1, 2, 3}},
		{2, []int{45, 44, 45, 6000, 44}, []int{-2, 2, -3, -4, 4}},
		{3, []int{44, 44, 44, 108, 44}, []int{1, 1, 2, 3, 4}},
		{3, []int{108, 44, 108, 109, 108}, []int{1, 2, 3, -4, 4}},
		{4, []int{172, 172, 173, 172, 45, 44, 44}, []int{1, 2, -3, 3, 4, 4, 5}},
		{4, []int{44, 44, 44, 44}, []int{1, 1, 1, 2}},
		{4, []int{108, 44, 44}, []int{1, 1, 2}},
		{96, []int{6000, 44, 6000}, []int{1, 2, 3}},
		{95, []int{5996, 6000, 5996}, []int{1, -2, 2}},
		{95, []int{5997, 44}, []int{-2, 2}},
		{97, []int{6000, 44, 44}, []int{1, 1, 2}},
	} {
		p := api.Plan{Log: c.log, Pages: 60}
		s, h := format(t, p)
		for i, n := range c.sizes {
			what := fmt.Sprint("log of ", c.log, ", record ", i, " of ", n)
			want, gen := api.OK, c.gens[i]
			if gen < 0 {
				want, gen = api.ErrFull, -gen
			}
			if e := checkCommit(t, what, s, h, sized(n)); e != want || s.Gen() != gen {
				t.Errorf("%s: %d, Gen %d; want %d, %d", what, e, s.Gen(), want, gen)
			}
			checkOpen(t, what, s.Disk(), p)
		}
	}
}

// P10.2: pairs of just as many pages as the plan's hold, and one more.
func TestCommitPages(t *testing.T) {
	for pages, most := range map[int]int{1: 5, 2: 5, 3: 10, 4: 15, 8: 35, 9: 40, 11: 40, 12: 45, 13: 50, 200: 870} {
		p := api.Plan{Log: 100, Pages: pages}
		s, h := format(t, p)
		for from := 0; from < most; from += 200 {
			if e := checkCommit(t, "up to most", s, h, sets(from, min(200, most-from))); e != api.OK {
				t.Errorf("%d pages, from %d on: %d", pages, from, e)
			}
		}
		for _, l := range [][]api.Change{some(set("more", "")), some(del(key(0)), set("more", ""), set("yet more", "")), sets(most, 150)} {
			if e := checkCommit(t, "one more", s, h, l); e != api.ErrFull {
				t.Errorf("%d pages, %s: %d", pages, shown(l), e)
			}
		}
		for _, l := range [][]api.Change{
			some(set(key(0), "other")), some(del(key(0)), set("more", "")), some(set("yet more", ""), del("more")),
			some(set("and more", ""), set("and more", "1"), del(key(1)), del("none")), some(del("yet more"), del("and more")), some(set("one", ""), set("two", "")),
		} {
			if e := checkCommit(t, "as many", s, h, l); e != api.OK {
				t.Errorf("%d pages, %s: %d", pages, shown(l), e)
			}
		}
		if l := s.Range("", ""); len(l) != most {
			t.Errorf("%d pages: %d pairs, want %d", pages, len(l), most)
		}
		checkCheckpoint(t, "most", s, h)
		checkOpen(t, "most", s.Disk(), p)
	}
}

// P10.2: with too many pairs nothing has changed, but a checkpoint may have been written.
func TestCommitPagesBehindCheckpoint(t *testing.T) {
	s, h := format(t, tiny)
	for i := range 5 {
		checkCommit(t, "five", s, h, some(set(key(i), "")))
	}
	gen := s.Gen()
	if e := checkCommit(t, "a sixth", s, h, some(set(key(6), ""))); e != api.ErrFull || s.Gen() != gen+1 {
		t.Errorf("a sixth: %d, Gen %d behind %d", e, s.Gen(), gen)
	}
	// Now there is room in the log, and no checkpoint comes first.
	if e := checkCommit(t, "a sixth again", s, h, some(set(key(6), ""))); e != api.ErrFull || s.Gen() != gen+1 {
		t.Errorf("a sixth again: %d, Gen %d behind %d", e, s.Gen(), gen)
	}
	// Where there is neither room in the log nor in the pages, a checkpoint is written, too.
	if e := checkCommit(t, "great", s, h, sized(500)); e != api.ErrFull || s.Gen() != gen+2 {
		t.Errorf("great: %d, Gen %d behind %d", e, s.Gen(), gen)
	}
}

// P10.2: without power nothing is committed, whatever the changes are.
func TestWithoutPower(t *testing.T) {
	for _, first := range []int{0, 1} { // of a log with room, and of one without
		s, h := format(t, tiny)
		for range first {
			checkCommit(t, "first", s, h, some(set("a", "1")))
		}
		if e := s.Budget(0); e != api.OK {
			t.Fatal(e)
		}
		h.disk.Left = 0
		agrees(t, "nothing left", s, h)
		if e := checkCommit(t, "that may not be", s, h, nil); e != api.ErrArg {
			t.Errorf("with nothing left, Commit of none: %d", e)
		}
		if e := checkCommit(t, "too great", s, h, sized(6001)); e != api.ErrFull {
			t.Errorf("with nothing left, Commit of too many octets: %d", e)
		}
		for range 2 {
			for _, l := range [][]api.Change{some(set("b", "2")), nil, sets(0, 251), sized(6001), sets(0, 6)} {
				if e := checkCommit(t, "without power", s, h, l); e != api.ErrPower && len(l) > 0 {
					t.Errorf("without power, Commit of %s: %d", shown(l), e)
				}
			}
			if e := checkCheckpoint(t, "without power", s, h); e != api.ErrPower {
				t.Errorf("without power, Checkpoint: %d", e)
			}
			// More may be left, but the power stays off.
			if e := s.Budget(-1); e != api.OK || !s.Disk().Off {
				t.Errorf("Budget(-1): %d, %t", e, s.Disk().Off)
			}
			h.disk.Left = -1
		}
		refused(t, "without power", s.Disk(), tiny, api.ErrPower)
	}
}

// P10.3: checkpoints one behind the other, so that both halves are written, and written again.
func TestCheckpoint(t *testing.T) {
	p := api.Plan{Log: 9, Pages: 13}
	s, h := format(t, p)
	for i, n := range []int{0, 0, 3, 5, 6, 40, 41, 50, 50, 7, 1, 0, 12} {
		what := fmt.Sprint("checkpoint ", i)
		var l []api.Change
		for k := range 50 {
			if _, e := s.Get(key(k)); k < n && (e != api.OK || k%5 == i%5) {
				l = append(l, set(key(k), strconv.Itoa(i)))
			} else if k >= n && e == api.OK {
				l = append(l, del(key(k)))
			}
		}
		for group := range slices.Chunk(l, 30) {
			checkCommit(t, what, s, h, group)
		}
		gen, before := s.Gen(), all(s)
		if e := checkCheckpoint(t, what, s, h); e != api.OK || s.Gen() != gen+1 || len(before) != n || !maps.Equal(all(s), before) {
			t.Errorf("%s: %d, Gen %d behind %d, %d pairs", what, e, s.Gen(), gen, len(all(s)))
		}
		checkOpen(t, what, s.Disk(), p)
	}
}

// P10.3: how many writes and flushes a checkpoint and a commit are: with just these left they are done, with one less not.
func TestSpends(t *testing.T) {
	p := api.Plan{Log: 12, Pages: 3}
	for _, c := range []struct {
		n     int // of pairs
		spent int // 8 of each page, and 4
	}{{0, 12}, {5, 12}, {6, 28}, {10, 28}} {
		for _, left := range []int{c.spent, c.spent - 1, c.spent + 1} {
			s, h := format(t, p)
			if c.n > 0 {
				checkCommit(t, "pairs", s, h, sets(0, c.n))
			}
			if e := s.Budget(left); e != api.OK {
				t.Error(e)
			}
			h.disk.Left = left
			want := api.OK
			if left < c.spent {
				want = api.ErrPower
			}
			if e := checkCheckpoint(t, "with so many left", s, h); e != want || s.Disk().Left != max(left-c.spent, 0) {
				t.Errorf("of %d pairs, with %d left: %d, %d left", c.n, left, e, s.Disk().Left)
			}
		}
	}
	for size, spent := range map[int]int{44: 4, 45: 5, 108: 5, 109: 6} {
		s, h := format(t, p)
		s.Budget(spent)
		h.disk.Left = spent
		if e := checkCommit(t, "with so many left", s, h, sized(size)); e != api.OK || s.Disk().Left != 0 {
			t.Errorf("of %d octets: %d, %d left", size, e, s.Disk().Left)
		}
	}
}

// handMade is a disk of a super of any numbers, with pairs, and records in its log.
func handMade(p api.Plan, gen, half, next int, pairs []api.Pair, records ...[]byte) api.Disk {
	pages := pagesOf(pairs)
	d := api.Disk{S: noughts(sizeOf(p)), Left: -1}
	lay(d.S, gen%2, superOf(gen, half, next, len(pages)))
	lay(d.S, pageAt(p, half, 0), bytes.Join(pages, nil))
	at := logAt(p, half)
	for i, data := range records {
		b := frameOf(next+i, data)
		lay(d.S, at, b)
		at += len(b) / 64
	}
	return d
}

// P10.3: of a disk made by hand the Gen, or the log's Next, can rise no more.
func TestRiseNoMore(t *testing.T) {
	p := api.Plan{Log: 4, Pages: 3}
	one := recordOf(some(set("a", "1")))
	open := func(gen, next int, records ...[]byte) (*store.Store, *hand) {
		s, h, e := checkOpen(t, "by hand", handMade(p, gen, 1, next, pairsOf(6), records...), p)
		if e != api.OK {
			t.Fatalf("Gen %d, Next %d: %d", gen, next, e)
		}
		return s, h
	}
	// The last Gen but one can rise once.
	s, h := open(api.MaxSeq-1, 1)
	for _, want := range []api.Errno{api.OK, api.ErrArg, api.ErrArg} {
		if e := checkCheckpoint(t, "the last Gen", s, h); e != want || s.Gen() != api.MaxSeq {
			t.Errorf("the last Gen but one: %d, %d", e, s.Gen())
		}
	}
	// With the last Gen changes are committed as long as the log has room.
	s, h = open(api.MaxSeq, 1)
	for _, want := range []api.Errno{api.OK, api.OK, api.OK, api.ErrArg, api.ErrArg} {
		if e := checkCommit(t, "the last Gen", s, h, some(set("a", "2"))); e != want {
			t.Errorf("with the last Gen, Commit: %d, want %d", e, want)
		}
	}
	if e := checkCommit(t, "the last Gen", s, h, some(del("a"))); e != api.ErrArg {
		t.Errorf("with the last Gen, Commit: %d", e)
	}
	checkOpen(t, "the last Gen", s.Disk(), p)
	// By the last number one record is written, and no checkpoint any more.
	s, h = open(5, api.MaxSeq)
	for _, want := range []api.Errno{api.OK, api.ErrArg, api.ErrArg} {
		if e := checkCommit(t, "the last number", s, h, some(set("b", "3"))); e != want {
			t.Errorf("with the last number, Commit: %d, want %d", e, want)
		}
	}
	if e := checkCheckpoint(t, "the last number", s, h); e != api.ErrArg {
		t.Errorf("behind the last number, Checkpoint: %d", e)
	}
	s, h, _ = checkOpen(t, "the last number", s.Disk(), p)
	if e := checkCommit(t, "the last number", s, h, some(set("c", "3"))); e != api.ErrArg {
		t.Errorf("behind the last number, Commit: %d", e)
	}
	// What the chapter names ahead comes ahead.
	for _, l := range [][]api.Change{somePairs(5), sized(6001)} {
		if e := checkCommit(t, "the last number", s, h, l); e != api.ErrFull {
			t.Errorf("behind the last number, Commit of too much: %d", e)
		}
	}
	s, h = open(5, api.MaxSeq)
	for _, want := range []api.Errno{api.OK, api.OK} {
		if e := checkCheckpoint(t, "the last number", s, h); e != want {
			t.Errorf("with the last number, Checkpoint: %d", e)
		}
	}
	s, h = open(5, api.MaxSeq-2, one, one, one)
	if e := checkCommit(t, "a log that is full", s, h, some(set("b", "3"))); e != api.ErrArg {
		t.Errorf("behind the last number, in a log that is full: %d", e)
	}
}

// P10.3: where a super can be written no more, a power failure ahead of it comes first.
func TestRiseNoMorePower(t *testing.T) {
	p := api.Plan{Log: 4, Pages: 3}
	one := recordOf(some(set("a", "1")))
	for _, d := range []api.Disk{handMade(p, api.MaxSeq, 1, 1, pairsOf(3), one, one, one), handMade(p, 6, 0, api.MaxSeq, pairsOf(3), one)} {
		for left := range 14 {
			s, h, _ := checkOpen(t, "by hand", withLeft(d, left), p)
			want := api.ErrArg
			if left < 10 {
				want = api.ErrPower
			}
			if e := checkCheckpoint(t, "by hand", s, h); e != want {
				t.Errorf("with %d left, Checkpoint: %d", left, e)
			}
			has(t, "by hand", s, h.pairs)
		}
	}
}

// P10.3: a log made by hand may leave more pairs than the pages hold: they are there, but no checkpoint is.
func TestTooManyPairsByHand(t *testing.T) {
	p := api.Plan{Log: 30, Pages: 3}
	for _, n := range []int{10, 11, 40, 200, 250} {
		d := handMade(p, 1, 0, 1, nil, recordOf(somePairs(n)))
		s, h, e := checkOpen(t, "by hand", d, p)
		if e != api.OK || len(s.Range("", "")) != n {
			t.Fatalf("%d pairs: %d", n, e)
		}
		want := api.OK
		if n > 10 {
			want = api.ErrFull
		}
		if e := checkCheckpoint(t, "by hand", s, h); e != want {
			t.Errorf("%d pairs, Checkpoint: %d", n, e)
		}
		if e := checkCommit(t, "by hand", s, h, some(set(somePairs(1)[0].Key, "x"))); e != want {
			t.Errorf("%d pairs, Commit: %d", n, e)
		}
		var fewer []api.Change
		for _, c := range somePairs(n)[:n-3] {
			fewer = append(fewer, del(c.Key))
		}
		checkCommit(t, "by hand", s, h, fewer)
	}
	many := api.Plan{Log: 400, Pages: 200}
	s, h, e := checkOpen(t, "by hand", handMade(many, 1, 0, 1, nil, recordOf(sets(0, 250)), recordOf(sets(250, 250)), recordOf(sets(500, 250)), recordOf(sets(750, 121))), many)
	if e != api.OK || checkCheckpoint(t, "more than any tree", s, h) != api.ErrFull {
		t.Errorf("871 pairs: %d", e)
	}
	s.Budget(0)
	h.disk.Left = 0
	if e := checkCommit(t, "more than any tree", s, h, slices.Repeat(some(del(key(0))), 2)); e != api.ErrPower {
		t.Errorf("871 pairs, with nothing left, Commit: %d", e)
	}
	if e := checkCheckpoint(t, "more than any tree", s, h); e != api.ErrPower {
		t.Errorf("871 pairs, without power, Checkpoint: %d", e)
	}
}

// somePairs are changes of short keys without values.
func somePairs(n int) []api.Change {
	var l []api.Change
	for i := range n {
		l = append(l, set(string([]byte{'A' + byte(i/16), 'a' + byte(i%16)}), ""))
	}
	return l
}

// P10.4: Get of a key that is there, that was deleted, that never was; and Range as layer 9's.
func TestGetAndRange(t *testing.T) {
	s, h := format(t, small)
	keys := []string{"a", "aa", "ab", "b", "b\x00", "\xff", "c", "z"}
	for i, key := range keys {
		checkCommit(t, "keys", s, h, some(set(key, strconv.Itoa(i))))
	}
	checkCommit(t, "keys", s, h, some(del("c")))
	ends := append(keys, "", "\x00", "a\x00", "aaa", "c\x00", "zz", "\xff\xff", strings.Repeat("k", 99))
	check := func() {
		t.Helper()
		for key, want := range map[string]api.Errno{"a": api.OK, "b\x00": api.OK, "c": api.ErrNone, "never": api.ErrNone, "": api.ErrNone, "A": api.ErrNone, "a\x00": api.ErrNone} {
			if val, e := s.Get(key); e != want || e != api.OK && val != "" || e == api.OK && val != h.pairs[key] {
				t.Errorf("Get(%q): %q, %d", key, val, e)
			}
		}
		for _, from := range ends {
			for _, to := range ends {
				var want []api.Pair
				for _, p := range byKey(h.pairs) {
					if p.Key >= from && (p.Key < to || to == "") {
						want = append(want, p)
					}
				}
				if l := s.Range(from, to); !slices.Equal(l, want) {
					t.Errorf("Range(%q, %q): %s, want %s", from, to, shown(l), shown(want))
				}
			}
		}
	}
	check()
	checkCheckpoint(t, "keys", s, h)
	check()
	s, h, _ = checkOpen(t, "keys", s.Disk(), small)
	check()
}

// P10.4: Disk and Budget.
func TestBudget(t *testing.T) {
	s, h := format(t, small)
	for _, n := range []int{3, 0, -1, math.MaxInt, 7} {
		if e := s.Budget(n); e != api.OK || s.Disk().Left != n {
			t.Errorf("Budget(%d): %d, %d left", n, e, s.Disk().Left)
		}
		h.disk.Left = n
		agrees(t, "Budget", s, h)
	}
	for _, n := range []int{-2, -3, math.MinInt} {
		if e := s.Budget(n); e != api.ErrArg {
			t.Errorf("Budget(%d): %d", n, e)
		}
		agrees(t, "Budget", s, h)
	}
	checkCommit(t, "four of seven", s, h, some(set("a", "1")))
	if e := checkCommit(t, "three left", s, h, some(set("a", "2"))); e != api.ErrPower {
		t.Errorf("with three left: %d", e)
	}
	// The disk that was answered ahead is as it was.
	s, _ = format(t, small)
	d := s.Disk()
	before := copyOf(d)
	s.Commit(some(set("a", "1")))
	s.Checkpoint()
	s.Budget(2)
	s.Commit(some(set("a", "2")))
	if !sameDisk(d, before) {
		t.Errorf("a disk answered ahead has changed: %s", diskShown(d, before))
	}
}

// R3: what was handed in may be changed behind the call, and so may what Range answered.
func TestHandedIn(t *testing.T) {
	s, h := format(t, small)
	l := some(set("a", "1"), set("b", "2"))
	checkCommit(t, "changes", s, h, l)
	l[0], l[1] = set("x", "9"), del("a")
	agrees(t, "changes changed", s, h)
	pairs := s.Range("", "")
	pairs[0] = api.Pair{Key: "z", Val: "z"}
	pairs = append(pairs[:1], pairs[0])
	agrees(t, "pairs changed", s, h)
	d := copyOf(s.Disk())
	d.W = []api.Pending{{At: logAt(small, 0) + 3, B: make([]byte, 64)}}
	before := copyOf(d)
	s, h, _ = checkOpen(t, "a disk", d, small)
	for _, b := range d.S {
		b[0]++
	}
	d.S[3], d.W[0].B[1], d.W[0].At = nil, 9, 5
	if !sameDisk(s.Disk(), before) {
		t.Errorf("the disk that was opened, and changed: %s", diskShown(s.Disk(), before))
	}
	checkCommit(t, "a disk changed", s, h, some(set("c", "3")))
	checkCheckpoint(t, "a disk changed", s, h)
	// Two stores of one disk go their own ways.
	s, h = format(t, small)
	a, byHandA, _ := checkOpen(t, "one", s.Disk(), small)
	b, byHandB, _ := checkOpen(t, "the other", s.Disk(), small)
	for i := range 4 {
		checkCommit(t, "one", a, byHandA, some(set("a", strconv.Itoa(i))))
		checkCommit(t, "the other", b, byHandB, some(set("b", strconv.Itoa(i)), del("a")))
		agrees(t, "one", a, byHandA)
	}
	agrees(t, "the first", s, h)
}

// subsets are what a crash may keep of so many writes: each, if they are few; else all, none, each alone, all but each, and some.
func subsets(r *rand.Rand, n int) [][]bool {
	var l [][]bool
	if n <= 6 {
		for mask := range 1 << n {
			keep := make([]bool, n)
			for k := range keep {
				keep[k] = mask>>k&1 == 1
			}
			l = append(l, keep)
		}
		return l
	}
	l = append(l, nil, slices.Repeat([]bool{true}, n))
	for k := range n {
		only, but := make([]bool, n), slices.Repeat([]bool{true}, n)
		only[k], but[k] = true, false
		l = append(l, only, but)
	}
	for range 20 {
		keep := make([]bool, n)
		for k := range keep {
			keep[k] = r.Intn(2) == 0
		}
		l = append(l, keep)
	}
	return l
}

// recovers: behind each crash there is what there was, or, if there is, what was in flight; it is opened again and again, and goes on.
func recovers(t *testing.T, r *rand.Rand, what string, d api.Disk, p api.Plan, may ...map[string]string) {
	t.Helper()
	for _, keep := range subsets(r, len(d.W)) {
		back := disk.Crash(d, keep)
		s, e := store.Open(back, p)
		if e != api.OK || !slices.ContainsFunc(may, func(m map[string]string) bool { return maps.Equal(m, all(s)) }) {
			t.Fatalf("%s, kept %v: %d, there is %s", what, keep, e, shown(all(s)))
		}
		there := all(s)
		// The power fails while it is opened, and while it is opened again.
		for _, again := range []api.Disk{disk.Crash(s.Disk(), nil), disk.Crash(back, keep), withLeft(back, 0)} {
			if s, e = store.Open(again, p); e != api.OK || !maps.Equal(all(s), there) {
				t.Fatalf("%s, kept %v, opened again: %d, there is %s", what, keep, e, shown(all(s)))
			}
		}
		s, _ = store.Open(back, p)
		more := some(set("more", what[:1]), del(key(0)))
		for range 2 {
			if e := s.Commit(more); e != api.OK {
				t.Fatalf("%s, kept %v, one commit more: %d", what, keep, e)
			}
			there = behind(there, more)
			more = some(del("more"))
			if s, e = store.Open(s.Disk(), p); e != api.OK || !maps.Equal(all(s), there) {
				t.Fatalf("%s, kept %v, behind one commit more: %d, there is %s", what, keep, e, shown(all(s)))
			}
		}
	}
}

// failing lets the power fail at each operation of what is done to a store that a disk has.
func failing(t *testing.T, what string, d api.Disk, p api.Plan, l []api.Change) {
	t.Helper()
	r := rand.New(rand.NewSource(int64(len(what))))
	for left := 0; ; left++ {
		s, h, _ := checkOpen(t, what, withLeft(d, left), p)
		before := maps.Clone(h.pairs)
		var e api.Errno
		after := before
		if l == nil {
			e = checkCheckpoint(t, what, s, h)
		} else {
			e = checkCommit(t, what, s, h, l)
			after = behind(before, l)
		}
		if e == api.OK {
			has(t, what, s, after)
			if left < 4 {
				t.Errorf("%s: done by %d writes and flushes", what, left)
			}
			recovers(t, r, what+", done", s.Disk(), p, after)
			return
		}
		if e != api.ErrPower || left > 2000 {
			t.Fatalf("%s, with %d left: %d", what, left, e)
		}
		has(t, what, s, before)
		recovers(t, r, fmt.Sprint(what, ", ", left, " left"), s.Disk(), p, before, after)
	}
}

// P10.5: the power fails at each operation of a commit, of a checkpoint, and of a commit that checkpoints.
func TestPowerFails(t *testing.T) {
	p := api.Plan{Log: 8, Pages: 5}
	for _, first := range []int{0, 1, 4} { // checkpoints ahead, so that either half counts, and both have been written
		s, h := format(t, p)
		for i := range first {
			checkCommit(t, "ahead", s, h, sets(i, 3))
			checkCommit(t, "ahead", s, h, some(del(key(i)), set("a", strconv.Itoa(i))))
			checkCheckpoint(t, "ahead", s, h)
		}
		what := fmt.Sprint(first, " checkpoints ahead")
		failing(t, "a commit behind "+what, s.Disk(), p, some(set("a", "new"), set("b", "new"), del(key(2))))
		failing(t, "a great commit behind "+what, s.Disk(), p, sized(300))
		failing(t, "a checkpoint behind "+what, s.Disk(), p, nil)
		for i := range 3 {
			checkCommit(t, "ahead", s, h, some(set("a", strings.Repeat("v", 60)), set("c", strconv.Itoa(i))))
		}
		failing(t, "a commit that checkpoints behind "+what, s.Disk(), p, some(set("a", "new"), set("b", "new"), del("c")))
		failing(t, "a checkpoint behind commits and "+what, s.Disk(), p, nil)
		checkCommit(t, "ahead", s, h, sets(0, 10))
		failing(t, "a great commit that checkpoints behind "+what, s.Disk(), p, sized(300))
	}
}

// P10.5: what stood in a log ahead is none of it, though its number is the next one.
func TestOldRecords(t *testing.T) {
	p := api.Plan{Log: 5, Pages: 1}
	// Half 1's log has a record that would come next, behind a checkpoint by which it would count.
	d := handMade(p, 3, 0, 7, pairsOf(2))
	old := append(frameOf(7, recordOf(some(set("old", "1")))), frameOf(8, recordOf(some(set("old", "2"))))...)
	lay(d.S, logAt(p, 1), append(old, frameOf(9, recordOf(some(set("old", "3"))))...))
	s, h, _ := checkOpen(t, "old records", d, p)
	checkCheckpoint(t, "old records", s, h)
	s, h, _ = checkOpen(t, "old records", s.Disk(), p)
	if _, e := s.Get("old"); e != api.ErrNone {
		t.Errorf("an old record came back: %d", e)
	}
	checkCommit(t, "old records", s, h, some(set("new", "1")))
	s, h, _ = checkOpen(t, "old records", s.Disk(), p)
	if _, e := s.Get("old"); e != api.ErrNone {
		t.Errorf("an old record came back behind a new one: %d", e)
	}
	failing(t, "a checkpoint over old records", d, p, nil)
	failing(t, "a commit behind old records", s.Disk(), p, some(set("new", "2")))
}

// P10.5: many commits and checkpoints, with power failures among them.
func TestAnyPowerFailures(t *testing.T) {
	for seed := range int64(30) {
		r := rand.New(rand.NewSource(seed))
		p := api.Plan{Log: 2 + r.Intn(10), Pages: 1 + r.Intn(6)}
		s, _ := format(t, p)
		want := map[string]string{}
		for range 150 {
			s.Budget(r.Intn(40) - 1)
			l := anyChanges(r)
			after := want
			var e api.Errno
			if r.Intn(6) == 0 {
				e = s.Checkpoint()
			} else {
				e = s.Commit(l)
				after = behind(want, l)
			}
			if e == api.OK {
				want = after
			}
			if e == api.ErrPower || r.Intn(10) == 0 {
				keep := make([]bool, len(s.Disk().W))
				for k := range keep {
					keep[k] = r.Intn(3) > 0
				}
				var openErr api.Errno
				if s, openErr = store.Open(disk.Crash(s.Disk(), keep), p); openErr != api.OK {
					t.Fatalf("seed %d: Open behind a crash: %d", seed, openErr)
				}
				if e == api.ErrPower && maps.Equal(all(s), after) {
					want = after
				}
			}
			has(t, fmt.Sprint("seed ", seed), s, want)
		}
	}
}

// anyChanges are some, of few keys.
func anyChanges(r *rand.Rand) []api.Change {
	var l []api.Change
	for range 1 + r.Intn(1+r.Intn(9)) {
		c := api.Change{Key: key(r.Intn(20)), Del: r.Intn(3) == 0}
		if !c.Del {
			c.Val = strings.Repeat("v", r.Intn(61))
		}
		l = append(l, c)
	}
	return l
}

// All promises: many calls, octet for octet as by hand.
func TestAny(t *testing.T) {
	for seed := range int64(40) {
		r := rand.New(rand.NewSource(seed))
		p := api.Plan{Log: 2 + r.Intn(9), Pages: 1 + r.Intn(5)}
		s, h := format(t, p)
		for range 60 {
			what := fmt.Sprint("seed ", seed)
			switch n := r.Intn(12); {
			case n < 7:
				checkCommit(t, what, s, h, anyChanges(r))
			case n < 8:
				checkCommit(t, what, s, h, sized(1+8*r.Intn(90)))
			case n < 10:
				checkCheckpoint(t, what, s, h)
			case n < 11:
				left := r.Intn(50) - 1
				s.Budget(left)
				h.disk.Left = left
			default:
				keep := []bool{r.Intn(2) == 0, r.Intn(2) == 0, true}
				s, h, _ = checkOpen(t, what, disk.Crash(s.Disk(), keep), p)
			}
			if s == nil || t.Failed() {
				t.Fatal(what)
			}
		}
	}
}

// P10.1: any disk that is damaged is opened as by hand: each bit, and some sectors exchanged.
func TestAnyDamage(t *testing.T) {
	p := api.Plan{Log: 5, Pages: 3}
	s, h := format(t, p)
	checkCommit(t, "ahead", s, h, sets(0, 7))
	checkCheckpoint(t, "ahead", s, h)
	checkCommit(t, "ahead", s, h, some(set("a", "1"), del(key(3))))
	checkCommit(t, "ahead", s, h, some(set("b", strings.Repeat("v", 60))))
	d := s.Disk()
	for sector := range d.S {
		for octet := range 64 {
			checkOpen(t, fmt.Sprint("sector ", sector, ", octet ", octet), turned(d, sector, octet), p)
		}
	}
	r := rand.New(rand.NewSource(1))
	for range 1500 {
		other := copyOf(d)
		for range 1 + r.Intn(2) {
			a, b := r.Intn(len(d.S)), r.Intn(len(d.S))
			other.S[a], other.S[b] = other.S[b], other.S[a]
		}
		if r.Intn(2) == 0 {
			other = with(other, logAt(p, r.Intn(2))+r.Intn(2), frameOf(1+r.Intn(4), anyRecord(r)))
		}
		checkOpen(t, "exchanged", other, p)
	}
}

// anyRecord is a record, mostly with an octet that is another one, or with some cut off.
func anyRecord(r *rand.Rand) []byte {
	b := recordOf(some(set("a", "1"), del("b"), set("cd", "")))
	switch r.Intn(3) {
	case 0:
		b[r.Intn(len(b))] = byte(r.Intn(4))
	case 1:
		b = b[:r.Intn(len(b))]
	}
	return b
}

// The chapter's examples.
func TestExamples(t *testing.T) {
	s, e := store.Format(small)
	if e != api.OK {
		t.Fatal(e)
	}
	if e := s.Commit(some(set("a", "1"))); e != api.OK {
		t.Errorf("Commit: %d", e)
	}
	s, e = store.Open(s.Disk(), small)
	if e != api.OK {
		t.Fatal(e)
	}
	if val, e := s.Get("a"); val != "1" || e != api.OK {
		t.Errorf("Get: %q, %d", val, e)
	}
	if e := s.Commit(some(del("a"))); e != api.OK {
		t.Errorf("Commit: %d", e)
	}
	if val, e := s.Get("a"); val != "" || e != api.ErrNone {
		t.Errorf("Get: %q, %d", val, e)
	}
	if e := s.Commit(nil); e != api.ErrArg {
		t.Errorf("Commit of none: %d", e)
	}
}
