package wal_test

import (
	"bytes"
	"encoding/binary"
	"hash/crc32"
	"math"
	"math/bits"
	"math/rand"
	"slices"
	"testing"

	"bursar/api"
	"bursar/disk"
	"bursar/wal"
)

// lengths are ordinary ones of records, and those at the edges of sectors and of what there may be.
var lengths = []int{0, 1, 3, 43, 44, 45, 46, 64, 107, 108, 109, 172, 173, 300, 1000, 5996, 5997, 5999, 6000}

// sum is the sum of octets by the library, whose bits lie the other way round.
func sum(b []byte) []byte {
	turned := make([]byte, len(b))
	for i, octet := range b {
		turned[i] = bits.Reverse8(octet)
	}
	return binary.BigEndian.AppendUint32(nil, bits.Reverse32(crc32.ChecksumIEEE(turned)))
}

// byHand is a record laid down by the words of the chapter of frames.
func byHand(seq int, data []byte) []byte {
	b := []byte("burs")
	b = append(b, binary.BigEndian.AppendUint64(nil, uint64(seq))[2:]...)
	b = binary.BigEndian.AppendUint16(b, uint16(len(data)))
	b = append(b, sum(data)...)
	b = append(b, data...)
	b = append(b, sum(b)...)
	return append(b, make([]byte, -len(b)&63)...)
}

// octetsOf are octets of a length, the same ones in each run of a source.
func octetsOf(r *rand.Rand, length int) []byte {
	b := make([]byte, length)
	r.Read(b)
	return b
}

// full is a disk on which no octet is a nought.
func full(n int) api.Disk {
	d := api.Disk{Left: -1}
	for i := range n {
		d.S = append(d.S, bytes.Repeat([]byte{byte(i%255 + 1)}, 64))
	}
	return d
}

// empty is a disk of noughts.
func empty(n int) api.Disk {
	d := api.Disk{Left: -1}
	for range n {
		d.S = append(d.S, make([]byte, 64))
	}
	return d
}

// with is a disk with octets from a sector on, by hand.
func with(d api.Disk, i int, b []byte) api.Disk {
	d.S = slices.Clone(d.S)
	for ; len(b) > 0; i++ {
		d.S[i], b = bytes.Clone(b[:64]), b[64:]
	}
	return d
}

// copyOf is a disk that has nothing in common with another one.
func copyOf(d api.Disk) api.Disk {
	l := api.Disk{Left: d.Left, Off: d.Off}
	for _, b := range d.S {
		l.S = append(l.S, bytes.Clone(b))
	}
	for _, w := range d.W {
		l.W = append(l.W, api.Pending{At: w.At, B: bytes.Clone(w.B)})
	}
	return l
}

func sameDisk(a, b api.Disk) bool {
	sameWrite := func(v, w api.Pending) bool { return v.At == w.At && bytes.Equal(v.B, w.B) }
	return slices.EqualFunc(a.S, b.S, bytes.Equal) && slices.EqualFunc(a.W, b.W, sameWrite) && a.Left == b.Left && a.Off == b.Off
}

func isNoDisk(d api.Disk) bool {
	return sameDisk(d, api.Disk{})
}

// logOf is a log from a sector on, of so many, and where and by which number it is written next.
func logOf(from, length, at, next int) api.Log {
	return api.Log{From: from, Len: length, At: at, Next: next}
}

// part is what an append or a clear does to a disk: a write of a sector, or a flush.
type part struct {
	flush bool
	at    int
	b     []byte
}

// partsOfAppend are those of an append, by the chapter's words.
func partsOfAppend(l api.Log, data []byte) []part {
	b, at := byHand(l.Next, data), l.From+l.At
	var parts []part
	for i := 64; i < len(b); i += 64 {
		parts = append(parts, part{at: at + i/64, b: b[i : i+64]})
	}
	parts = append(parts, part{at: at + len(b)/64, b: make([]byte, 64)}, part{flush: true})
	return append(parts, part{at: at, b: b[:64]}, part{flush: true})
}

// partsOfClear are those of a clear.
func partsOfClear(l api.Log) []part {
	return []part{{at: l.From + l.At, b: make([]byte, 64)}, {flush: true}}
}

// done is a disk on which parts are done, as far as there is power.
func done(d api.Disk, parts []part) (api.Disk, api.Errno) {
	d = copyOf(d)
	for _, p := range parts {
		if d.Off || d.Left == 0 {
			d.Off = true
			return d, api.ErrPower
		}
		if d.Left > 0 {
			d.Left--
		}
		if !p.flush {
			d.W = append(d.W, api.Pending{At: p.at, B: p.b})
			continue
		}
		for _, w := range d.W {
			d.S[w.At] = bytes.Clone(w.B)
		}
		d.W = nil
	}
	return d, api.OK
}

// budget is a disk with so many writes and flushes left.
func budget(d api.Disk, n int) api.Disk {
	d.Left = n
	return d
}

// off is a disk without power.
func off(d api.Disk) api.Disk {
	d.Left, d.Off = 0, true
	return d
}

func append1(t *testing.T, d api.Disk, l api.Log, data []byte) (api.Disk, api.Log) {
	t.Helper()
	d, l, e := wal.Append(d, l, data)
	if e != api.OK {
		t.Fatalf("Append of %d octets: error %d", len(data), e)
	}
	return d, l
}

// checkScan: a log has just these records, and the log behind them is another one.
func checkScan(t *testing.T, d api.Disk, l api.Log, want []api.Frame, wantLog api.Log, wantErr api.Errno) {
	t.Helper()
	same := func(f, g api.Frame) bool { return f.Seq == g.Seq && bytes.Equal(f.Data, g.Data) }
	before := copyOf(d)
	got, gotLog, e := wal.Scan(d, l)
	if !slices.EqualFunc(got, want, same) || gotLog != wantLog || e != wantErr {
		t.Errorf("Scan of %v: %d records, %v, %d; want %d, %v, %d", l, len(got), gotLog, e, len(want), wantLog, wantErr)
	}
	if !sameDisk(d, before) {
		t.Errorf("Scan of %v changed the disk", l)
	}
}

// checkAppend: an append does what the chapter says, at each budget.
func checkAppend(t *testing.T, d api.Disk, l api.Log, data []byte) {
	t.Helper()
	parts := partsOfAppend(l, data)
	behind := logOf(l.From, l.Len, l.At+len(parts)-3, l.Next+1)
	for left := -1; left <= len(parts)+2; left++ {
		given := budget(d, left)
		before := copyOf(given)
		want, wantErr := done(given, parts)
		got, gotLog, e := wal.Append(given, l, data)
		wantLog := behind
		if wantErr != api.OK {
			wantLog = api.Log{}
		}
		if !sameDisk(got, want) || gotLog != wantLog || e != wantErr {
			t.Errorf("Append of %d octets to %v, %d left: %v, %d, the disk %t; want %v, %d", len(data), l, left, gotLog, e, sameDisk(got, want), wantLog, wantErr)
		}
		if !sameDisk(given, before) {
			t.Errorf("Append of %d octets to %v, %d left, changed the disk", len(data), l, left)
		}
	}
	got, gotLog, e := wal.Append(off(d), l, data)
	if !sameDisk(got, off(d)) || gotLog != (api.Log{}) || e != api.ErrPower {
		t.Errorf("Append of %d octets to %v without power: %v, %d", len(data), l, gotLog, e)
	}
}

// checkNoAppend: an append is refused, and there is nothing beside that.
func checkNoAppend(t *testing.T, d api.Disk, l api.Log, length int, want api.Errno) {
	t.Helper()
	got, gotLog, e := wal.Append(d, l, make([]byte, length))
	if !isNoDisk(got) || gotLog != (api.Log{}) || e != want {
		t.Errorf("Append of %d octets to %v: %v, %d; want %d", length, l, gotLog, e, want)
	}
}

// checkClear: a clear does what the chapter says, at each budget.
func checkClear(t *testing.T, d api.Disk, l api.Log) {
	t.Helper()
	for left := -1; left <= 4; left++ {
		given := budget(d, left)
		before := copyOf(given)
		want, wantErr := done(given, partsOfClear(l))
		if got, e := wal.Clear(given, l); !sameDisk(got, want) || e != wantErr {
			t.Errorf("Clear of %v, %d left: %d, the disk %t; want %d", l, left, e, sameDisk(got, want), wantErr)
		}
		if !sameDisk(given, before) {
			t.Errorf("Clear of %v, %d left, changed the disk", l, left)
		}
	}
	if got, e := wal.Clear(off(d), l); !sameDisk(got, off(d)) || e != api.ErrPower {
		t.Errorf("Clear of %v without power: %d", l, e)
	}
}

// checkNone: a log that may not be is refused by all that ask for one.
func checkNone(t *testing.T, d api.Disk, l api.Log) {
	t.Helper()
	if wal.May(d, l) {
		t.Errorf("%v may be on %d sectors", l, len(d.S))
	}
	checkNoAppend(t, d, l, 3, api.ErrArg)
	checkNoAppend(t, d, l, 6000, api.ErrArg)
	checkNoAppend(t, d, l, 6001, api.ErrArg)
	checkScan(t, d, l, nil, api.Log{}, api.ErrArg)
	if got, e := wal.Clear(d, l); !isNoDisk(got) || e != api.ErrArg {
		t.Errorf("Clear of %v: %d", l, e)
	}
}

// P6.1

// far are places, lengths and numbers that nothing has.
var far = []int{math.MinInt, math.MinInt + 1, -api.MaxSeq, -1 << 31, -64, math.MaxInt - 64, math.MaxInt - 1, math.MaxInt}

func TestMay(t *testing.T) {
	// By the words, over all small logs.
	for sectors := 1; sectors <= 5; sectors++ {
		d := full(sectors)
		for from := -2; from <= 6; from++ {
			for length := -2; length <= 7; length++ {
				for at := -2; at <= 7; at++ {
					for next := -1; next <= 2; next++ {
						there := true
						for i := range max(length, 0) {
							there = there && from+i < sectors
						}
						want := from >= 0 && length >= 2 && there && at >= 0 && at <= length-1 && next >= 1
						l := logOf(from, length, at, next)
						if got := wal.May(d, l); got != want {
							t.Errorf("May of %v on %d sectors: %t", l, sectors, got)
						}
						if !want {
							checkNone(t, d, l)
						}
					}
				}
			}
		}
	}
}

func TestMayAtTheEdges(t *testing.T) {
	d := full(8)
	for _, l := range []api.Log{logOf(0, 2, 0, 1), logOf(0, 2, 1, 1), logOf(6, 2, 1, 1), logOf(0, 8, 7, 1), logOf(3, 5, 4, 1), logOf(0, 8, 0, api.MaxSeq), logOf(1, 7, 2, api.MaxSeq-1)} {
		if !wal.May(d, l) {
			t.Errorf("%v may not be", l)
		}
	}
	for _, l := range []api.Log{{}, logOf(-1, 4, 0, 1), logOf(0, 1, 0, 1), logOf(0, 0, 0, 1), logOf(0, -1, 0, 1), logOf(7, 1, 0, 1), logOf(7, 2, 0, 1), logOf(8, 2, 0, 1), logOf(0, 9, 0, 1), logOf(0, 8, -1, 1), logOf(0, 8, 8, 1), logOf(2, 6, 6, 1), logOf(2, 6, 7, 1), logOf(0, 8, 0, 0), logOf(0, 8, 0, -1), logOf(0, 8, 0, 1<<48), logOf(0, 8, 0, 1<<48+1)} {
		checkNone(t, d, l)
	}
	for _, n := range far {
		for _, l := range []api.Log{logOf(n, 4, 0, 1), logOf(0, n, 0, 1), logOf(0, 4, n, 1), logOf(0, 4, 0, n), logOf(n, n, 0, 1), logOf(2, n, n-1, 1), logOf(n, n, n, n), logOf(n, -n, 0, 1)} {
			checkNone(t, d, l)
		}
	}
	biggest := empty(api.MaxSectors)
	if !wal.May(biggest, logOf(0, 4096, 4095, 1)) || !wal.May(biggest, logOf(4094, 2, 0, 1)) {
		t.Error("the biggest disk")
	}
	checkNone(t, biggest, logOf(0, 4097, 0, 1))
	checkNone(t, biggest, logOf(4095, 2, 0, 1))
}

func TestMayOnADiskThatMayNotBe(t *testing.T) {
	l := logOf(0, 4, 0, 1)
	short := full(4)
	short.S[3] = short.S[3][:63]
	checkNone(t, short, l)
	checkNone(t, api.Disk{}, l)
	checkNone(t, budget(full(4), -2), l)
	checkNone(t, full(api.MaxSectors+1), l)
	astray := full(4)
	astray.W = []api.Pending{{At: 4, B: make([]byte, 64)}}
	checkNone(t, astray, l)
	astray.W = []api.Pending{{At: 0, B: make([]byte, 65)}}
	checkNone(t, astray, l)
	// Without power, or with none left, it may be.
	if !wal.May(off(full(4)), l) || !wal.May(budget(full(4), 0), l) {
		t.Error("May without power")
	}
}

func TestRoom(t *testing.T) {
	// How many sectors a record is, step by step.
	var sectors []int
	for n, used := 0, 1; n <= 6000; n++ {
		if 16+n+4 > used*64 {
			used++
		}
		sectors = append(sectors, used)
	}
	for _, length := range []int{-1, 0, 1, 2, 3, 4, 5, 95, 96, 97, 200} {
		for at := -1; at <= length+1; at++ {
			for n := -1; n <= 6002; n += 1 + n/200 {
				want := length >= 2 && at >= 0 && at < length && n >= 0 && n <= 6000 && at+sectors[n]+1 <= length
				for _, l := range []api.Log{logOf(0, length, at, 1), logOf(-5, length, at, 0), logOf(9000, length, at, 1<<60)} {
					if got := wal.Room(l, n); got != want {
						t.Errorf("Room of %v, %d: %t", l, n, got)
					}
				}
			}
		}
	}
}

func TestRoomAtTheEdges(t *testing.T) {
	for _, c := range []struct {
		length, at, n int
		want          bool
	}{
		{2, 0, 0, true}, {2, 0, 44, true}, {2, 0, 45, false}, {2, 1, 0, false}, {1, 0, 0, false}, {0, 0, 0, false},
		{3, 0, 45, true}, {3, 0, 108, true}, {3, 0, 109, false}, {3, 1, 44, true}, {3, 1, 45, false}, {3, 2, 0, false},
		{96, 0, 6000, true}, {95, 0, 6000, false}, {95, 0, 5996, true}, {95, 0, 5997, false}, {4096, 4000, 6000, true}, {4096, 4001, 6000, false},
		{4096, 0, 6001, false}, {4096, 0, -1, false},
		{math.MaxInt, 0, 6000, true}, {math.MaxInt, math.MaxInt - 96, 6000, true}, {math.MaxInt, math.MaxInt - 95, 6000, false},
		{math.MaxInt, math.MaxInt - 2, 44, true}, {math.MaxInt, math.MaxInt - 1, 0, false}, {math.MaxInt, math.MaxInt - 1, 45, false}, {math.MaxInt, math.MaxInt - 2, 6000, false}, {math.MaxInt, math.MaxInt, 0, false},
	} {
		if got := wal.Room(api.Log{Len: c.length, At: c.at, Next: 1}, c.n); got != c.want {
			t.Errorf("Room at %d of %d, %d octets: %t", c.at, c.length, c.n, got)
		}
	}
	for _, n := range far {
		for _, l := range []api.Log{logOf(0, n, 0, 1), logOf(0, 4, n, 1), logOf(0, n, n, 1), logOf(0, n, n-1, 1)} {
			if l.Len < 2 || l.At >= l.Len || l.At < 0 {
				if wal.Room(l, 0) {
					t.Errorf("Room of %v", l)
				}
			}
		}
		if wal.Room(api.Log{Len: 200, Next: 1}, n) {
			t.Errorf("Room for %d octets", n)
		}
	}
}

// P6.2

func TestAppend(t *testing.T) {
	r := rand.New(rand.NewSource(1))
	for i, length := range lengths {
		data := octetsOf(r, length)
		sectors := len(byHand(1, data)) / 64
		// On noughts and on what stood there; with just room and with more of it.
		checkAppend(t, empty(sectors+1), logOf(0, sectors+1, 0, 1), data)
		checkAppend(t, full(sectors+9), logOf(2, sectors+5, i%5, 1+i), data)
		checkAppend(t, full(sectors+4), logOf(1, sectors+3, 2, api.MaxSeq-1), make([]byte, length))
		checkAppend(t, full(sectors+4), logOf(1, sectors+3, 1, api.MaxSeq), bytes.Repeat([]byte{255}, length))
	}
}

func TestAppendWhereWritesWait(t *testing.T) {
	// They are done by the first flush, in order.
	d := full(6)
	for _, at := range []int{5, 1, 2, 1, 0, 3} {
		d.W = append(d.W, api.Pending{At: at, B: bytes.Repeat([]byte{byte(200 + at)}, 64)})
	}
	checkAppend(t, d, logOf(0, 6, 0, 1), []byte("abc"))
	checkAppend(t, d, logOf(1, 4, 1, 7), make([]byte, 45))
	checkClear(t, d, logOf(1, 4, 1, 7))
}

func TestAppendWithoutRoom(t *testing.T) {
	for _, c := range []struct{ length, at, n int }{
		{2, 0, 45}, {2, 1, 0}, {2, 1, 44}, {3, 0, 109}, {3, 1, 45}, {3, 2, 0}, {95, 0, 6000}, {95, 0, 5997}, {96, 1, 6000}, {4, 0, 200}, {4, 0, 6000},
	} {
		l := logOf(1, c.length, c.at, 1)
		d := full(c.length + 200)
		checkNoAppend(t, d, l, c.n, api.ErrFull)
		// That comes ahead of the power's failing.
		checkNoAppend(t, off(d), l, c.n, api.ErrFull)
		checkNoAppend(t, budget(d, 0), l, c.n, api.ErrFull)
		checkNoAppend(t, d, logOf(1, c.length, c.at, api.MaxSeq), c.n, api.ErrFull)
		// And behind it that the log may not be.
		checkNoAppend(t, d, logOf(1, c.length, c.at, api.MaxSeq+1), c.n, api.ErrArg)
		checkNoAppend(t, d, logOf(1, c.length, c.at, 0), c.n, api.ErrArg)
		checkNoAppend(t, d, logOf(-1, c.length, c.at, 1), c.n, api.ErrArg)
	}
	// With one octet less there is room.
	for _, c := range []struct{ length, at, n int }{{2, 0, 44}, {3, 0, 108}, {3, 1, 44}, {95, 0, 5996}, {96, 0, 6000}} {
		checkAppend(t, full(c.length+2), logOf(1, c.length, c.at, 1), make([]byte, c.n))
	}
}

func TestAppendOfTooMuch(t *testing.T) {
	for _, n := range []int{6001, 6002, 6016, 1 << 16, 1 << 20} {
		for _, l := range []api.Log{logOf(0, 4096, 0, 1), logOf(0, 2, 0, 1), logOf(0, 2, 1, 1), logOf(0, 1, 0, 1), logOf(0, 300, 0, api.MaxSeq)} {
			checkNoAppend(t, empty(4096), l, n, api.ErrArg)
			checkNoAppend(t, off(empty(4096)), l, n, api.ErrArg)
		}
	}
}

func TestAppendByTheLastNumber(t *testing.T) {
	first := logOf(0, 9, 0, api.MaxSeq-1)
	d, l := append1(t, empty(9), first, []byte("last but one"))
	d, l = append1(t, d, l, []byte("last"))
	if l != (logOf(0, 9, 2, 1<<48)) {
		t.Errorf("behind the last number: %v", l)
	}
	checkScan(t, d, first, []api.Frame{{Seq: api.MaxSeq - 1, Data: []byte("last but one")}, {Seq: api.MaxSeq, Data: []byte("last")}}, l, api.OK)
	// There is no number behind that.
	checkNone(t, d, l)
	l.Next = 1
	checkAppend(t, d, l, []byte("abc"))
}

// P6.3

// log1 are records, laid one behind the other by hand.
func log1(first int, data ...[]byte) []byte {
	var b []byte
	for i, octets := range data {
		b = append(b, byHand(first+i, octets)...)
	}
	return b
}

func TestScan(t *testing.T) {
	r := rand.New(rand.NewSource(2))
	for k := range 60 {
		first := []int{1, 2, 255, 1 << 31, api.MaxSeq - 100}[k%5]
		var all []byte
		var want []api.Frame
		for i := range r.Intn(12) {
			want = append(want, api.Frame{Seq: first + i, Data: octetsOf(r, lengths[r.Intn(12)])})
			all = append(all, byHand(first+i, want[i].Data)...)
		}
		from, size := r.Intn(5), len(all)/64
		for _, more := range []int{1, 2, 7} {
			if size+more < 2 {
				continue
			}
			for _, blank := range []api.Disk{empty(from + size + more + 3), full(from + size + more + 3)} {
				l := logOf(from, size+more, 0, first)
				behind := logOf(from, size+more, size, first+len(want))
				d := with(blank, from, all)
				checkScan(t, d, l, want, behind, api.OK)
				checkScan(t, budget(d, 0), l, want, behind, api.OK)
				checkScan(t, off(d), l, nil, api.Log{}, api.ErrPower)
				checkScan(t, d, behind, nil, behind, api.OK)
				// From the middle on: its number has to be the one that stands there.
				for i, at := 0, 0; i < len(want); i++ {
					checkScan(t, d, logOf(from, size+more, at, first+i), want[i:], behind, api.OK)
					at += len(byHand(want[i].Seq, want[i].Data)) / 64
				}
			}
		}
	}
}

func TestScanOfAnotherNumber(t *testing.T) {
	for _, c := range []struct {
		b    []byte
		next int
		n    int // how many records there are
		size int // and sectors
	}{
		{byHand(7, nil), 7, 1, 1}, {byHand(7, nil), 6, 0, 0}, {byHand(7, nil), 8, 0, 0}, {byHand(7, nil), 1, 0, 0}, {byHand(7, nil), 7 + 1<<40, 0, 0},
		{byHand(1, nil), 1, 1, 1}, {byHand(0, nil), 1, 0, 0}, {byHand(api.MaxSeq, nil), api.MaxSeq, 1, 1}, {byHand(api.MaxSeq, nil), 1, 0, 0},
		{slices.Concat(byHand(7, nil), byHand(7, nil)), 7, 1, 1}, {slices.Concat(byHand(7, nil), byHand(9, nil)), 7, 1, 1},
		{slices.Concat(byHand(7, nil), byHand(6, nil)), 7, 1, 1}, {slices.Concat(byHand(7, nil), byHand(8, nil)), 7, 2, 2},
		{slices.Concat(byHand(7, nil), byHand(8, nil), byHand(7, nil)), 7, 2, 2}, {slices.Concat(byHand(7, nil), byHand(9, nil), byHand(8, nil)), 7, 1, 1},
		{slices.Concat(byHand(api.MaxSeq, nil), byHand(1, nil)), api.MaxSeq, 1, 1}, {slices.Concat(byHand(api.MaxSeq, nil), byHand(0, nil)), api.MaxSeq, 1, 1},
	} {
		var want []api.Frame
		for i := range c.n {
			want = append(want, api.Frame{Seq: c.next + i})
		}
		l := logOf(1, 8, 0, c.next)
		checkScan(t, with(empty(10), 1, c.b), l, want, logOf(1, 8, c.size, c.next+c.n), api.OK)
	}
}

func TestScanOfWhatIsNone(t *testing.T) {
	a, b := []byte("abc"), bytes.Repeat([]byte{7}, 100)
	d := with(full(10), 0, log1(1, a, b, a))
	l := logOf(0, 10, 0, 1)
	one := []api.Frame{{Seq: 1, Data: a}}
	checkScan(t, d, l, []api.Frame{{Seq: 1, Data: a}, {Seq: 2, Data: b}, {Seq: 3, Data: a}}, logOf(0, 10, 4, 4), api.OK)
	// An octet is another one: all of the record's, and the noughts behind it.
	for i := 64; i < 3*64; i++ {
		damaged := copyOf(d)
		damaged.S[i/64][i%64] ^= 4
		checkScan(t, damaged, l, one, logOf(0, 10, 1, 2), api.OK)
	}
	// A sector of noughts ends it, and one is not gone over to what follows.
	for i, n := range []int{0, 1, 1, 2} {
		at, next := []int{0, 1, 1, 3}[i], n+1
		cleared := with(d, i, make([]byte, 64))
		got, behind, e := wal.Scan(cleared, l)
		if len(got) != n || behind != (logOf(0, 10, at, next)) || e != api.OK {
			t.Errorf("sector %d: %d records, %v, %d", i, len(got), behind, e)
		}
	}
	// Nor does one begin in the middle of a sector.
	half := with(empty(10), 0, slices.Concat(make([]byte, 32), log1(1, a, b), make([]byte, 32)))
	checkScan(t, half, l, nil, l, api.OK)
	for at := 1; at < 10; at++ {
		l := logOf(0, 10, at, 1)
		checkScan(t, d, l, nil, l, api.OK)
	}
}

func TestScanWithoutRoom(t *testing.T) {
	// A record whose sectors just fit has no room, as one behind it is lacking.
	for _, length := range []int{0, 44, 45, 109, 6000} {
		first, second := []byte("first"), bytes.Repeat([]byte{3}, length)
		all := log1(5, first, second)
		size := len(all) / 64
		d := with(full(size+6), 2, all)
		one, two := []api.Frame{{Seq: 5, Data: first}}, []api.Frame{{Seq: 5, Data: first}, {Seq: 6, Data: second}}
		for n := 2; n <= size+3; n++ {
			l := logOf(2, n, 0, 5)
			if n > size {
				checkScan(t, d, l, two, logOf(2, n, size, 7), api.OK)
			} else {
				checkScan(t, d, l, one, logOf(2, n, 1, 6), api.OK)
			}
		}
		// At the disk's end likewise.
		d = with(full(2+size), 2, all)
		checkScan(t, d, logOf(2, size, 0, 5), one, logOf(2, size, 1, 6), api.OK)
	}
}

func TestScanOfWhatWaits(t *testing.T) {
	d := with(empty(6), 1, log1(1, []byte("old")))
	l := logOf(1, 5, 0, 1)
	d.W = []api.Pending{{At: 1, B: byHand(1, []byte("older"))}, {At: 2, B: byHand(2, nil)}, {At: 1, B: byHand(1, []byte("new"))}}
	checkScan(t, d, l, []api.Frame{{Seq: 1, Data: []byte("new")}, {Seq: 2}}, logOf(1, 5, 2, 3), api.OK)
	checkScan(t, off(d), l, nil, api.Log{}, api.ErrPower)
	// That the log may not be comes ahead of the power.
	checkNone(t, off(d), logOf(1, 6, 0, 1))
	checkNone(t, budget(d, 0), logOf(1, 5, 5, 1))
}

func TestClear(t *testing.T) {
	for from := range 3 {
		for length := 2; length <= 5; length++ {
			for at := range length {
				for _, next := range []int{1, 2, api.MaxSeq} {
					checkClear(t, full(8), logOf(from, length, at, next))
				}
			}
		}
	}
	checkClear(t, full(2), logOf(0, 2, 1, 1))
}

func TestScanOfWhatIsCleared(t *testing.T) {
	l := logOf(0, 8, 0, 1)
	d, second := append1(t, empty(8), l, []byte("one"))
	d, third := append1(t, d, second, make([]byte, 100))
	for _, c := range []struct {
		at api.Log
		n  int
	}{{l, 0}, {second, 1}, {third, 2}, {logOf(0, 8, 2, 1), 1}, {logOf(0, 8, 7, 1), 2}} {
		cleared, e := wal.Clear(d, c.at)
		if e != api.OK {
			t.Fatalf("Clear: %d", e)
		}
		got, _, e := wal.Scan(cleared, l)
		if len(got) != c.n || e != api.OK {
			t.Errorf("cleared at %d: %d records, %d; want %d", c.at.At, len(got), e, c.n)
		}
	}
}

// P6.4

// crashes are all disks that a crash may leave of one: whatever of what waits is kept, or, if that is a great deal, a part of it.
func crashes(r *rand.Rand, d api.Disk, use func(api.Disk)) {
	n := len(d.W)
	if n <= 6 {
		for kept := range 1 << n {
			keep := make([]bool, n)
			for k := range n {
				keep[k] = kept>>k&1 == 1
			}
			use(disk.Crash(d, keep))
		}
		return
	}
	for k := range n + 12 {
		keep := make([]bool, n)
		for i := range keep {
			switch {
			case k < n:
				keep[i] = i != k
			case k == n:
				keep[i] = true
			case k > n+1:
				keep[i] = r.Intn(2) == 0
			}
		}
		use(disk.Crash(d, keep))
	}
}

// history is what was appended, from where the log began.
type history struct {
	first, now api.Log
	frames     []api.Frame
}

func (h history) plus(l api.Log, data []byte) history {
	h.frames = append(slices.Clone(h.frames), api.Frame{Seq: h.now.Next, Data: data})
	h.now = l
	return h
}

// begun is a log of some records on a disk.
func begun(t *testing.T, d api.Disk, l api.Log, data ...[]byte) (api.Disk, history) {
	t.Helper()
	h := history{first: l, now: l}
	for _, octets := range data {
		d, l = append1(t, d, l, octets)
		h = h.plus(l, octets)
	}
	return d, h
}

// checkFailing: wherever the power fails in an append, whatever a crash keeps, all ahead are scanned, and the new record whole, or not at all; what is answered is there in any case, and the log goes on.
func checkFailing(t *testing.T, r *rand.Rand, d api.Disk, h history, data []byte) {
	t.Helper()
	n := len(partsOfAppend(h.now, data))
	whole, behind := append1(t, d, h.now, data)
	with := h.plus(behind, data)
	checkScan(t, whole, h.first, with.frames, with.now, api.OK)
	crashes(r, whole, func(d api.Disk) { checkScan(t, d, h.first, with.frames, with.now, api.OK) })
	for left := range n {
		failed, _, e := wal.Append(budget(d, left), h.now, data)
		if e != api.ErrPower {
			t.Fatalf("Append, %d left: %d", left, e)
		}
		crashes(r, failed, func(d api.Disk) {
			t.Helper()
			got, l, e := wal.Scan(d, h.first)
			if e != api.OK || len(got) < len(h.frames) || len(got) > len(with.frames) {
				t.Fatalf("behind a crash, %d left: %d records, %d", left, len(got), e)
			}
			seen := h
			if len(got) == len(with.frames) {
				seen = with
			}
			// Only the last flush may have let it be seen.
			if len(got) == len(with.frames) && left != n-1 {
				t.Errorf("%d left: the record is seen", left)
			}
			checkScan(t, d, h.first, seen.frames, seen.now, api.OK)
			if l != seen.now || !wal.Room(l, 3) {
				return
			}
			next, last := append1(t, d, l, []byte("new"))
			seen = seen.plus(last, []byte("new"))
			checkScan(t, next, h.first, seen.frames, seen.now, api.OK)
		})
	}
}

func TestPowerFailingInAnAppend(t *testing.T) {
	r := rand.New(rand.NewSource(3))
	for _, length := range []int{0, 3, 44, 45, 108, 109, 200, 300, 6000} {
		for ahead := range 4 {
			var data [][]byte
			for range ahead {
				data = append(data, octetsOf(r, r.Intn(150)))
			}
			d, h := begun(t, empty(130), logOf(2, 120, 0, 1+r.Intn(1000)), data...)
			checkFailing(t, r, d, h, octetsOf(r, length))
		}
	}
}

func TestPowerFailingWithJustRoom(t *testing.T) {
	r := rand.New(rand.NewSource(4))
	for _, length := range []int{0, 44, 45, 172} {
		size := len(byHand(1, make([]byte, length))) / 64
		d, h := begun(t, empty(size+5), logOf(2, size+3, 0, 1), nil, []byte("two"))
		checkFailing(t, r, d, h, octetsOf(r, length))
	}
}

func TestPowerFailingInAClear(t *testing.T) {
	r := rand.New(rand.NewSource(5))
	d, h := begun(t, empty(12), logOf(1, 10, 0, 1), []byte("one"), make([]byte, 100), []byte("three"))
	for left := range 2 {
		failed, e := wal.Clear(budget(d, left), h.first)
		if e != api.ErrPower {
			t.Fatalf("Clear, %d left: %d", left, e)
		}
		seen := map[int]bool{}
		crashes(r, failed, func(d api.Disk) {
			got, _, e := wal.Scan(d, h.first)
			if len(got) != 0 && len(got) != 3 || e != api.OK {
				t.Errorf("behind a crash in a Clear, %d left: %d records, %d", left, len(got), e)
			}
			seen[len(got)] = true
		})
		if !seen[3] || seen[0] != (left == 1) {
			t.Errorf("%d left: %v", left, seen)
		}
	}
	cleared, e := wal.Clear(d, h.first)
	if e != api.OK {
		t.Fatalf("Clear: %d", e)
	}
	crashes(r, cleared, func(d api.Disk) { checkScan(t, d, h.first, nil, h.first, api.OK) })
	// In one that is cleared at its end, nothing is lost.
	for left := range 3 {
		failed, _ := wal.Clear(budget(d, left), h.now)
		crashes(r, failed, func(d api.Disk) { checkScan(t, d, h.first, h.frames, h.now, api.OK) })
	}
}

func TestWhatLooksLikeARecord(t *testing.T) {
	r := rand.New(rand.NewSource(6))
	for next := 1; next <= 6; next++ {
		// Each sector behind the first one is a record, by a number near the next.
		for near := next - 1; near <= next+2; near++ {
			var data []byte
			data = append(data, make([]byte, 48)...)
			for k := range 4 {
				data = append(data, byHand(near+k, []byte("feigned"))...)
			}
			d, h := begun(t, empty(14), logOf(0, 14, 0, next))
			checkFailing(t, r, d, h, data)
			d, h = begun(t, empty(14), logOf(0, 14, 0, next), []byte("ahead"))
			checkFailing(t, r, d, h, data)
			d, h = begun(t, empty(14), logOf(0, 14, 0, next), data)
			checkFailing(t, r, d, h, []byte("behind"))
			checkFailing(t, r, d, h, data)
		}
	}
}

func TestWhatStoodThereAhead(t *testing.T) {
	r := rand.New(rand.NewSource(7))
	// An older log by the same numbers, each record of one sector, that was cleared: behind whatever is appended it is not seen again.
	older := empty(20)
	first := logOf(0, 20, 0, 1)
	for k := range 20 {
		older.S[k] = byHand(k+1, []byte("older"))
	}
	older, e := wal.Clear(older, first)
	if e != api.OK {
		t.Fatalf("Clear: %d", e)
	}
	for _, sizes := range [][]int{{0}, {44}, {45}, {109}, {0, 0, 0}, {45, 3, 200}, {200, 45, 0}, {3, 300, 3}, {100, 100, 100, 100}} {
		d, h := begun(t, older, first)
		for _, size := range sizes {
			data := octetsOf(r, size)
			checkFailing(t, r, d, h, data)
			var l api.Log
			d, l = append1(t, d, h.now, data)
			h = h.plus(l, data)
			checkScan(t, d, first, h.frames, h.now, api.OK)
		}
	}
	// Nor one by the numbers that follow, at each place.
	for shift := -3; shift <= 3; shift++ {
		d := empty(20)
		for k := 1; k < 20; k++ {
			d.S[k] = byHand(max(k+1+shift, 0), []byte("older"))
		}
		for _, size := range []int{0, 44, 45, 108, 109, 300} {
			d, h := begun(t, d, first)
			checkFailing(t, r, d, h, octetsOf(r, size))
		}
	}
}

func TestALongHistory(t *testing.T) {
	r := rand.New(rand.NewSource(8))
	for range 30 {
		l := logOf(r.Intn(4), 20+r.Intn(40), 0, 1+r.Intn(5))
		d, h := begun(t, empty(80), l)
		for range 80 {
			data := octetsOf(r, r.Intn(260))
			if !wal.Room(h.now, len(data)) {
				checkNoAppend(t, d, h.now, len(data), api.ErrFull)
				// A log that is full begins anew where it began, by the next numbers or by its own ones.
				h = history{first: api.Log{From: l.From, Len: l.Len, At: 0, Next: []int{l.Next, h.now.Next}[r.Intn(2)]}}
				h.now = h.first
				var e api.Errno
				if d, e = wal.Clear(d, h.first); e != api.OK {
					t.Fatalf("Clear: %d", e)
				}
				continue
			}
			failed, behind, e := wal.Append(budget(d, r.Intn(12)-1), h.now, data)
			if e == api.OK {
				h = h.plus(behind, data)
			}
			keep := make([]bool, len(failed.W))
			for i := range keep {
				keep[i] = r.Intn(2) == 0
			}
			d = disk.Crash(failed, keep)
			got, now, f := wal.Scan(d, h.first)
			if f != api.OK {
				t.Fatalf("Scan: %d", f)
			}
			if e == api.ErrPower && len(got) == len(h.frames)+1 {
				h = h.plus(now, data)
			}
			checkScan(t, d, h.first, h.frames, h.now, api.OK)
		}
	}
}

func TestTheExamples(t *testing.T) {
	first := logOf(0, 4, 0, 1)
	d, e := disk.New(4)
	if e != api.OK {
		t.Fatalf("New: %d", e)
	}
	d, l := append1(t, d, first, []byte("abc"))
	if l != (logOf(0, 4, 1, 2)) {
		t.Errorf("behind abc: %v", l)
	}
	checkScan(t, d, first, []api.Frame{{Seq: 1, Data: []byte("abc")}}, l, api.OK)
	checkNoAppend(t, d, l, 200, api.ErrFull)
	checkNoAppend(t, d, first, 200, api.ErrFull)
}

// R3: what is handed in stays as it is and is not kept, and what is answered is new memory.

func TestOctetsThatAreHandedInAreNotKept(t *testing.T) {
	first := logOf(0, 9, 0, 1)
	data := bytes.Repeat([]byte{6}, 150)
	given := data[:100]
	d, l := append1(t, full(9), first, given)
	if !bytes.Equal(data, bytes.Repeat([]byte{6}, 150)) {
		t.Error("Append changed what was handed in")
	}
	copy(data, bytes.Repeat([]byte{7}, 150))
	want := []api.Frame{{Seq: 1, Data: bytes.Repeat([]byte{6}, 100)}}
	checkScan(t, d, first, want, l, api.OK)
	got, _, _ := wal.Scan(d, first)
	copy(got[0].Data, "others")
	_ = append(got[0].Data, "others"...)
	checkScan(t, d, first, want, l, api.OK)
	// Also what waits, where the power failed.
	data = bytes.Repeat([]byte{6}, 100)
	failed, _, e := wal.Append(budget(full(9), 1), first, data)
	copy(data, bytes.Repeat([]byte{7}, 100))
	if e != api.ErrPower || !bytes.Equal(failed.W[0].B, byHand(1, bytes.Repeat([]byte{6}, 100))[64:]) {
		t.Errorf("what waits: %x, %d", failed.W, e)
	}
}

func TestRecordsShareNothing(t *testing.T) {
	d, h := begun(t, empty(9), logOf(0, 9, 0, 1), []byte("one"), []byte("two"), []byte("three"))
	got, _, _ := wal.Scan(d, h.first)
	for i := range got {
		_ = append(got[i].Data, bytes.Repeat([]byte{9}, 100)...)
		copy(got[i].Data, "xxxxx")
	}
	_ = append(got, api.Frame{Seq: 9})
	checkScan(t, d, h.first, h.frames, h.now, api.OK)
}

func TestAppendsToOneDiskDoNotMeet(t *testing.T) {
	first := logOf(0, 9, 0, 1)
	d, e := disk.Write(empty(9), 8, bytes.Repeat([]byte{5}, 64))
	if e != api.OK {
		t.Fatalf("Write: %d", e)
	}
	a, _, _ := wal.Append(budget(d, 1), first, bytes.Repeat([]byte{1}, 60))
	b, _, _ := wal.Append(budget(d, 1), first, bytes.Repeat([]byte{2}, 60))
	if !bytes.Equal(a.W[1].B, byHand(1, bytes.Repeat([]byte{1}, 60))[64:]) || !bytes.Equal(b.W[1].B, byHand(1, bytes.Repeat([]byte{2}, 60))[64:]) {
		t.Error("two disks, appended to from one, have a write in common")
	}
	whole, l := append1(t, d, first, []byte("one"))
	other, k := append1(t, d, first, []byte("other"))
	checkScan(t, whole, first, []api.Frame{{Seq: 1, Data: []byte("one")}}, l, api.OK)
	checkScan(t, other, first, []api.Frame{{Seq: 1, Data: []byte("other")}}, k, api.OK)
}
