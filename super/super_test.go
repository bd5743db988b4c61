package super_test

import (
	"bytes"
	"encoding/binary"
	"hash/crc32"
	"math"
	"math/bits"
	"math/rand"
	"slices"
	"testing"

	"bursar/api"
	"bursar/disk"
	"bursar/super"
)

// most is the greatest number of a super, and of a log's record.
const most = 1<<48 - 1

// far are numbers that nothing has.
var far = []int{math.MinInt, math.MinInt + 1, -most, -1 << 31, -1 << 16, 1 << 16, 1 << 31, 1 << 32, 1 << 49, 1 << 60, math.MaxInt - 1, math.MaxInt}

func superOf(gen, half, next, pages int) api.Super {
	return api.Super{Gen: gen, Half: half, Next: next, Pages: pages}
}

func planOf(log, pages int) api.Plan {
	return api.Plan{Log: log, Pages: pages}
}

// sealed are octets with their sum behind them by the library, whose bits lie the other way round.
func sealed(b []byte) []byte {
	turned := make([]byte, len(b))
	for i, octet := range b {
		turned[i] = bits.Reverse8(octet)
	}
	return binary.BigEndian.AppendUint32(bytes.Clone(b), bits.Reverse32(crc32.ChecksumIEEE(turned)))
}

// byHand is a sector laid by the chapter's words, whether such a super may be or not.
func byHand(s api.Super) []byte {
	b := []byte{0x62, 0x73, 0x75, 0x70}
	b = append(b, binary.BigEndian.AppendUint64(nil, uint64(s.Gen))[2:]...)
	b = append(b, byte(s.Half))
	b = append(b, binary.BigEndian.AppendUint64(nil, uint64(s.Next))[2:]...)
	b = binary.BigEndian.AppendUint16(b, uint16(s.Pages))
	return sealed(append(b, make([]byte, 41)...))
}

// byEye is what a sector is whose sum is right, read by the chapter's words.
func byEye(b []byte) (api.Super, bool) {
	number := func(from, to int) int {
		return int(binary.BigEndian.Uint64(append(make([]byte, 8-(to-from)), b[from:to]...)))
	}
	s := superOf(number(4, 10), number(10, 11), number(11, 17), number(17, 19))
	if string(b[:4]) != "bsup" || !bytes.Equal(b[19:60], make([]byte, 41)) {
		return api.Super{}, false
	}
	if s.Gen == 0 || s.Half > 1 || s.Next == 0 || s.Pages > 200 {
		return api.Super{}, false
	}
	return s, true
}

// anySuper is one that may be.
func anySuper(r *rand.Rand) api.Super {
	number := func() int { return 1 + r.Intn(1<<r.Intn(49)) }
	return superOf(min(number(), most), r.Intn(2), min(number(), most), r.Intn(201))
}

// supers are some that may be, at all edges.
func supers() []api.Super {
	var all []api.Super
	for _, gen := range []int{1, 2, 3, 4, 255, 256, 1<<40 + 7, most - 1, most} {
		for _, half := range []int{0, 1} {
			for _, next := range []int{1, 2, 1 << 32, most} {
				for _, pages := range []int{0, 1, 199, 200} {
					all = append(all, superOf(gen, half, next, pages))
				}
			}
		}
	}
	return all
}

// nonsupers are some of which one part may not be.
func nonsupers() []api.Super {
	all := []api.Super{{}, superOf(0, 0, 1, 0), superOf(most+1, 0, 1, 0), superOf(-1, 0, 1, 0),
		superOf(1, -1, 1, 0), superOf(1, 2, 1, 0), superOf(1, 0, 0, 0), superOf(1, 0, -1, 0),
		superOf(1, 0, most+1, 0), superOf(1, 0, 1, -1), superOf(1, 0, 1, 201), superOf(most+1, 2, most+1, 201)}
	for _, n := range far {
		all = append(all, superOf(n, 0, 1, 0), superOf(1, n, 1, 0), superOf(1, 0, n, 0), superOf(1, 0, 1, n), superOf(n, n, n, n))
	}
	// The powers of two that the edges allow are supers themselves.
	return slices.DeleteFunc(all, func(s api.Super) bool {
		return s.Gen >= 1 && s.Gen <= most && s.Next >= 1 && s.Next <= most && (s.Half == 0 || s.Half == 1) && s.Pages >= 0 && s.Pages <= 200
	})
}

// checkDecode: a sector is decoded as this, and stays as it was.
func checkDecode(t *testing.T, b []byte, want api.Super, wantErr api.Errno) {
	t.Helper()
	before := bytes.Clone(b)
	if s, e := super.Decode(b); s != want || e != wantErr {
		t.Errorf("Decode of %x: %v, %d; want %v, %d", b, s, e, want, wantErr)
	}
	if !bytes.Equal(b, before) {
		t.Errorf("Decode changed %x", before)
	}
}

// checkChoose: of two sectors this super is chosen, and they stay as they were.
func checkChoose(t *testing.T, a, b []byte, want api.Super, wantErr api.Errno) {
	t.Helper()
	first, second := bytes.Clone(a), bytes.Clone(b)
	if s, e := super.Choose(a, b); s != want || e != wantErr {
		t.Errorf("Choose of %x and %x: %v, %d; want %v, %d", a, b, s, e, want, wantErr)
	}
	if !bytes.Equal(a, first) || !bytes.Equal(b, second) {
		t.Errorf("Choose changed %x or %x", first, second)
	}
}

// P7.1

func TestMay(t *testing.T) {
	for _, s := range supers() {
		if !super.May(s) {
			t.Errorf("%v may not be", s)
		}
	}
	for _, s := range nonsupers() {
		if super.May(s) {
			t.Errorf("%v may be", s)
		}
	}
}

func TestEncode(t *testing.T) {
	for _, s := range supers() {
		if b, e := super.Encode(s); !bytes.Equal(b, byHand(s)) || e != api.OK {
			t.Errorf("Encode of %v: %x, %d", s, b, e)
		}
	}
	for _, s := range nonsupers() {
		if b, e := super.Encode(s); len(b) != 0 || e != api.ErrArg {
			t.Errorf("Encode of %v: %x, %d", s, b, e)
		}
	}
}

func TestEncodeOctetForOctet(t *testing.T) {
	want := append([]byte("bsup"), 1, 2, 3, 4, 5, 6, 1, 7, 8, 9, 10, 11, 12, 0, 199)
	want = sealed(append(want, make([]byte, 41)...))
	got, e := super.Encode(superOf(0x010203040506, 1, 0x0708090a0b0c, 199))
	if !bytes.Equal(got, want) || len(got) != 64 || e != api.OK {
		t.Errorf("%x, %d; want %x", got, e, want)
	}
	got, e = super.Encode(superOf(4, 0, 1, 0))
	if !bytes.HasPrefix(got, []byte{0x62, 0x73, 0x75, 0x70, 0, 0, 0, 0, 0, 4}) || e != api.OK {
		t.Errorf("the chapter's example: %x, %d", got, e)
	}
}

func TestEncodeAnswersNewMemory(t *testing.T) {
	s := superOf(4, 1, 9, 3)
	first, _ := super.Encode(s)
	clear(first)
	// What a caller lays behind an answer is not behind the next one either.
	_ = append(first, 1, 2, 3)
	if second, _ := super.Encode(s); !bytes.Equal(second, byHand(s)) {
		t.Errorf("the second one: %x", second)
	}
}

func TestDecode(t *testing.T) {
	for _, s := range supers() {
		checkDecode(t, byHand(s), s, api.OK)
	}
}

func TestDecodeLength(t *testing.T) {
	b := byHand(superOf(5, 1, 6, 7))
	for length := range 200 {
		if length == 64 {
			continue
		}
		cut := append(bytes.Clone(b), make([]byte, 200)...)[:length]
		checkDecode(t, cut, api.Super{}, api.ErrShort)
		if length >= 4 {
			checkDecode(t, sealed(cut[:length-4]), api.Super{}, api.ErrShort)
		}
	}
	checkDecode(t, nil, api.Super{}, api.ErrShort)
	// Two sectors are none, even with a super each.
	checkDecode(t, append(bytes.Clone(b), b...), api.Super{}, api.ErrShort)
	// One octet more or less within, and the sum right again.
	checkDecode(t, sealed(b[:59]), api.Super{}, api.ErrShort)
	checkDecode(t, sealed(append(bytes.Clone(b[:60]), 0)), api.Super{}, api.ErrShort)
}

func TestDecodeOfEachOctetAnotherOne(t *testing.T) {
	for _, s := range []api.Super{superOf(5, 1, 6, 7), superOf(1, 0, 1, 0), superOf(most, 1, most, 200), superOf(256, 0, 256, 1)} {
		for i := range 64 {
			for octet := range 256 {
				b := byHand(s)
				if b[i] == byte(octet) {
					continue
				}
				b[i] = byte(octet)
				checkDecode(t, b, api.Super{}, api.ErrSum)
				if i >= 60 {
					continue
				}
				b = sealed(b[:60])
				want, is := byEye(b)
				wantErr := api.OK
				if !is {
					wantErr = api.ErrForm
				}
				checkDecode(t, b, want, wantErr)
			}
		}
	}
}

func TestDecodeOfPartsThatMayNotBe(t *testing.T) {
	for _, s := range []api.Super{superOf(0, 0, 1, 0), superOf(1, 2, 1, 0), superOf(1, 255, 1, 0), superOf(1, 0, 0, 0), superOf(1, 0, 1, 201), superOf(1, 0, 1, 65535), {}} {
		checkDecode(t, byHand(s), api.Super{}, api.ErrForm)
		damaged := byHand(s)
		damaged[63] ^= 1
		checkDecode(t, damaged, api.Super{}, api.ErrSum)
	}
	// All of the other kinds of octets, and sums of theirs.
	checkDecode(t, make([]byte, 64), api.Super{}, api.ErrSum)
	checkDecode(t, bytes.Repeat([]byte{255}, 64), api.Super{}, api.ErrSum)
	checkDecode(t, sealed(make([]byte, 60)), api.Super{}, api.ErrForm)
	checkDecode(t, sealed(bytes.Repeat([]byte{255}, 60)), api.Super{}, api.ErrForm)
	// A frame's beginning is no super's.
	b := byHand(superOf(5, 1, 6, 7))
	checkDecode(t, sealed(append([]byte("burs"), b[4:60]...)), api.Super{}, api.ErrForm)
	checkDecode(t, sealed(append([]byte("BSUP"), b[4:60]...)), api.Super{}, api.ErrForm)
}

func TestDecodeOfRandomSectors(t *testing.T) {
	r := rand.New(rand.NewSource(7))
	for range 5000 {
		b := make([]byte, 60)
		copy(b, byHand(anySuper(r))[:60])
		for range r.Intn(3) {
			b[r.Intn(60)] = byte(r.Intn(256))
		}
		b = sealed(b)
		want, is := byEye(b)
		if is {
			checkDecode(t, b, want, api.OK)
		} else {
			checkDecode(t, b, api.Super{}, api.ErrForm)
		}
	}
}

func TestChooseOfAllKinds(t *testing.T) {
	damaged := byHand(superOf(most-1, 0, 9, 9))
	damaged[63] ^= 128
	odd := byHand(superOf(most, 0, 9, 9))
	odd[9] ^= 1
	sectors := [][]byte{nil, {}, make([]byte, 64), damaged, odd, byHand(superOf(8, 0, 5, 1))[:63], append(byHand(superOf(8, 0, 5, 1)), 0),
		byHand(superOf(7, 0, 5, 1))[:63], byHand(superOf(0, 0, 1, 1)), byHand(superOf(10, 2, 1, 1)), byHand(superOf(11, 0, 0, 1)), byHand(superOf(13, 0, 1, 201))}
	for _, gen := range []int{1, 2, 3, 4, 5, 255, 256, 257, most - 2, most - 1, most} {
		for _, half := range []int{0, 1} {
			sectors = append(sectors, byHand(superOf(gen, half, 3, 4)))
		}
	}
	is := func(b []byte, place int) (api.Super, bool) {
		if len(b) != 64 || !bytes.Equal(b, sealed(b[:60])) {
			return api.Super{}, false
		}
		s, ok := byEye(b)
		return s, ok && s.Gen%2 == place
	}
	for _, a := range sectors {
		for _, b := range sectors {
			first, inFirst := is(a, 0)
			second, inSecond := is(b, 1)
			switch {
			case !inFirst && !inSecond:
				checkChoose(t, a, b, api.Super{}, api.ErrNone)
			case !inSecond || inFirst && first.Gen > second.Gen:
				checkChoose(t, a, b, first, api.OK)
			default:
				checkChoose(t, a, b, second, api.OK)
			}
		}
	}
}

func TestChoose(t *testing.T) {
	even, odd := superOf(4, 0, 10, 3), superOf(5, 1, 20, 4)
	a, b := byHand(even), byHand(odd)
	noughts := make([]byte, 64)
	checkChoose(t, a, b, odd, api.OK)
	checkChoose(t, byHand(superOf(6, 0, 1, 1)), b, superOf(6, 0, 1, 1), api.OK)
	checkChoose(t, a, noughts, even, api.OK)
	checkChoose(t, noughts, b, odd, api.OK)
	checkChoose(t, noughts, noughts, api.Super{}, api.ErrNone)
	checkChoose(t, nil, nil, api.Super{}, api.ErrNone)
	// In the other one's place there is none.
	checkChoose(t, b, a, api.Super{}, api.ErrNone)
	checkChoose(t, b, noughts, api.Super{}, api.ErrNone)
	checkChoose(t, noughts, a, api.Super{}, api.ErrNone)
	// The same one in both places, so the numbers are equal: it is in one of them.
	checkChoose(t, a, a, even, api.OK)
	checkChoose(t, b, b, odd, api.OK)
	// Numbers are held against one another, neither halves nor what is behind.
	checkChoose(t, byHand(superOf(2, 1, most, 200)), byHand(superOf(3, 0, 1, 0)), superOf(3, 0, 1, 0), api.OK)
	checkChoose(t, byHand(superOf(4, 0, 1, 0)), byHand(superOf(3, 1, most, 200)), superOf(4, 0, 1, 0), api.OK)
	checkChoose(t, byHand(superOf(256, 0, 1, 0)), byHand(superOf(255, 0, 1, 0)), superOf(256, 0, 1, 0), api.OK)
	checkChoose(t, byHand(superOf(most-1, 0, 1, 0)), byHand(superOf(most, 0, 1, 0)), superOf(most, 0, 1, 0), api.OK)
	// A greater one that is damaged plays no part.
	damaged := byHand(superOf(7, 1, 1, 1))
	damaged[20] ^= 1
	checkChoose(t, a, damaged, even, api.OK)
	checkChoose(t, a, sealed(damaged[:60]), even, api.OK)
}

// P7.2

// part is what a plan lays somewhere: from, and how many sectors.
type part struct{ from, n int }

// laidOut are a plan's parts, one behind the other: both places, then of each half the log and its pages.
func laidOut(p api.Plan) (logs [2]part, pages [2][]part, size int) {
	at := 2
	next := func(n int) part {
		at += n
		return part{at - n, n}
	}
	for half := range 2 {
		logs[half] = next(p.Log)
		for range p.Pages {
			pages[half] = append(pages[half], next(8))
		}
	}
	return logs, pages, at
}

// checkNoPlan: a plan that may not be is refused, whatever is asked of it.
func checkNoPlan(t *testing.T, p api.Plan) {
	t.Helper()
	if super.Fits(p) {
		t.Errorf("%v fits", p)
	}
	if size := super.Size(p); size != 0 {
		t.Errorf("Size of %v: %d", p, size)
	}
	for _, half := range []int{0, 1, -1, 2, math.MinInt, math.MaxInt} {
		if at, e := super.Log(p, half); at != 0 || e != api.ErrArg {
			t.Errorf("Log of %v, half %d: %d, %d", p, half, at, e)
		}
		for _, i := range []int{0, -1, p.Pages - 1, p.Pages, math.MinInt, math.MaxInt} {
			if at, e := super.Page(p, half, i); at != 0 || e != api.ErrArg {
				t.Errorf("Page %d of %v, half %d: %d, %d", i, p, half, at, e)
			}
		}
	}
}

// checkPlan: all places of a plan are where they are laid out.
func checkPlan(t *testing.T, p api.Plan) {
	t.Helper()
	logs, pages, size := laidOut(p)
	if !super.Fits(p) || super.Size(p) != size {
		t.Errorf("%v: fits %t, size %d; want %d", p, super.Fits(p), super.Size(p), size)
	}
	for half := range 2 {
		if at, e := super.Log(p, half); at != logs[half].from || e != api.OK {
			t.Errorf("Log of %v, half %d: %d, %d; want %d", p, half, at, e, logs[half].from)
		}
		for i, page := range pages[half] {
			if at, e := super.Page(p, half, i); at != page.from || e != api.OK {
				t.Errorf("Page %d of %v, half %d: %d, %d; want %d", i, p, half, at, e, page.from)
			}
		}
	}
}

func TestFitsAndSize(t *testing.T) {
	// By the words, over all plans about the edges.
	for log := -2; log <= 505; log++ {
		for pages := -2; pages <= 203; pages++ {
			p := planOf(log, pages)
			_, _, size := laidOut(planOf(max(log, 0), max(pages, 0)))
			want := log >= 2 && log <= 500 && pages >= 1 && pages <= 200 && size <= 4096
			if super.Fits(p) != want {
				t.Errorf("%v fits: %t", p, !want)
			}
			if !want {
				size = 0
			}
			if got := super.Size(p); got != size {
				t.Errorf("Size of %v: %d, want %d", p, got, size)
			}
		}
	}
}

func TestPlansAtTheEdges(t *testing.T) {
	for _, p := range []api.Plan{planOf(2, 1), planOf(500, 1), planOf(2, 200), planOf(10, 3), planOf(447, 200), planOf(446, 200), planOf(500, 193), planOf(499, 193), planOf(495, 194)} {
		checkPlan(t, p)
	}
	// Of just as many sectors as there may be, and of those that are too many.
	if size := super.Size(planOf(447, 200)); size != 4096 {
		t.Errorf("the greatest disk: %d", size)
	}
	for _, p := range []api.Plan{{}, planOf(1, 1), planOf(0, 1), planOf(-1, 1), planOf(501, 1), planOf(10, 0), planOf(10, -1), planOf(10, 201), planOf(448, 200), planOf(500, 194), planOf(496, 194), planOf(500, 200), planOf(1, 201), planOf(501, 0)} {
		checkNoPlan(t, p)
	}
	for _, n := range append(far, 1<<62, 1<<61, -1<<62, math.MaxInt/8+1, math.MinInt/8) {
		for _, p := range []api.Plan{planOf(n, 3), planOf(10, n), planOf(n, n), planOf(n, -n)} {
			checkNoPlan(t, p)
		}
	}
}

func TestLogAndPageOutside(t *testing.T) {
	for _, p := range []api.Plan{planOf(2, 1), planOf(10, 3), planOf(447, 200)} {
		for _, half := range append(far, -2, -1, 2, 3) {
			if at, e := super.Log(p, half); at != 0 || e != api.ErrRange {
				t.Errorf("Log of %v, half %d: %d, %d", p, half, at, e)
			}
			for _, i := range []int{-1, 0, p.Pages - 1, p.Pages} {
				if at, e := super.Page(p, half, i); at != 0 || e != api.ErrRange {
					t.Errorf("Page %d of %v, half %d: %d, %d", i, p, half, at, e)
				}
			}
		}
		for _, i := range append(far, -2, -1, p.Pages, p.Pages+1, 201) {
			for half := range 2 {
				if at, e := super.Page(p, half, i); at != 0 || e != api.ErrRange {
					t.Errorf("Page %d of %v, half %d: %d, %d", i, p, half, at, e)
				}
			}
		}
	}
}

func TestPlanExamples(t *testing.T) {
	p := planOf(10, 3)
	log, _ := super.Log(p, 1)
	page, _ := super.Page(p, 0, 2)
	if super.Size(p) != 70 || log != 36 || page != 28 {
		t.Errorf("%d, %d, %d", super.Size(p), log, page)
	}
}

// P7.3

func TestEncodedIsDecoded(t *testing.T) {
	r := rand.New(rand.NewSource(73))
	all := supers()
	for range 3000 {
		all = append(all, anySuper(r))
	}
	for _, s := range all {
		b, e := super.Encode(s)
		if e != api.OK {
			t.Fatalf("Encode of %v: %d", s, e)
		}
		checkDecode(t, b, s, api.OK)
		if s.Gen%2 == 0 {
			checkChoose(t, b, nil, s, api.OK)
		} else {
			checkChoose(t, nil, b, s, api.OK)
		}
	}
}

func TestTurnedBitsAreToldApart(t *testing.T) {
	r := rand.New(rand.NewSource(32))
	for range 2000 {
		b, _ := super.Encode(anySuper(r))
		// Up to 32 beside one another, at least one of them turned over.
		at, turned := r.Intn(64*8-32), r.Uint32()|1
		for i := range 32 {
			if turned>>i&1 == 1 {
				b[(at+i)/8] ^= 128 >> ((at + i) % 8)
			}
		}
		checkDecode(t, b, api.Super{}, api.ErrSum)
	}
}

func TestNoSectorInCommon(t *testing.T) {
	for _, p := range []api.Plan{planOf(2, 1), planOf(3, 2), planOf(10, 3), planOf(500, 1), planOf(2, 200), planOf(447, 200), planOf(500, 193)} {
		taken := make([]int, super.Size(p))
		take := func(from, n int) {
			for i := range n {
				taken[from+i]++
			}
		}
		take(0, 2)
		for half := range 2 {
			log, _ := super.Log(p, half)
			take(log, p.Log)
			for i := range p.Pages {
				page, _ := super.Page(p, half, i)
				take(page, 8)
			}
		}
		// Each sector is just one thing's: none is left over either.
		for i, times := range taken {
			if times != 1 {
				t.Errorf("%v: sector %d is %d times taken", p, i, times)
			}
		}
	}
}

func TestTheLaterOneIsChosen(t *testing.T) {
	d, _ := disk.New(super.Size(planOf(2, 1)))
	read := func(d api.Disk) (api.Super, api.Errno) {
		b, e := disk.Read(d, 0, 2)
		if e != api.OK {
			t.Fatalf("Read: %d", e)
		}
		return super.Choose(b[:64], b[64:])
	}
	if s, e := read(d); s != (api.Super{}) || e != api.ErrNone {
		t.Errorf("of a new disk: %v, %d", s, e)
	}
	last := api.Super{}
	for _, first := range []int{1, 2, 255, 65535, most - 5} {
		d, _ = disk.New(18)
		last = api.Super{}
		for gen := first; gen <= min(first+5, most); gen++ {
			s := superOf(gen, gen/2%2, most-gen+1, gen%201)
			b, _ := super.Encode(s)
			waits, _ := disk.Write(d, s.Gen%2, b)
			// Lost on its way there, it leaves the one ahead of it.
			if got, e := read(disk.Crash(waits, nil)); got != last || (e == api.OK) != (last.Gen > 0) {
				t.Errorf("lost ahead of %v: %v, %d", s, got, e)
			}
			d, _ = disk.Flush(waits)
			if got, e := read(d); got != s || e != api.OK {
				t.Errorf("behind %v: %v, %d", s, got, e)
			}
			last = s
		}
	}
}
