package frame_test

import (
	"bytes"
	"encoding/binary"
	"hash/crc32"
	"math"
	"math/bits"
	"math/rand"
	"testing"

	"bursar/api"
	"bursar/frame"
)

// seqs are ordinary numbers of frames, and those at the edges.
var seqs = []int{1, 2, 255, 256, 257, 1 << 16, 1<<32 - 1, 1 << 32, 0x0102030405, 0x010203040506, 0xfedcba987654, 1<<47 + 1, api.MaxSeq - 1, api.MaxSeq}

// noSeqs are numbers that no frame has.
var noSeqs = []int{0, -1, -2, -1 << 31, -api.MaxSeq, math.MinInt, math.MinInt + 1, api.MaxSeq + 1, api.MaxSeq + 2, 1 << 49, 1<<56 + 1, 1 << 62, math.MaxInt - 1, math.MaxInt}

// lengths are ordinary ones of frames, and those at the edges of sectors and of what there may be.
var lengths = []int{0, 1, 2, 3, 16, 43, 44, 45, 46, 63, 64, 65, 107, 108, 109, 127, 128, 129, 172, 173, 255, 256, 257, 512, 1000, 4095, 4096, 4097, 5931, 5932, 5933, 5995, 5996, 5997, 5999, 6000}

// sum is the sum of octets by the library, whose bits lie the other way round.
func sum(b []byte) []byte {
	turned := make([]byte, len(b))
	for i, octet := range b {
		turned[i] = bits.Reverse8(octet)
	}
	return binary.BigEndian.AppendUint32(nil, bits.Reverse32(crc32.ChecksumIEEE(turned)))
}

// head is a head by the chapter's words.
func head(seq, count int, b []byte) []byte {
	h := []byte{0x62, 0x75, 0x72, 0x73}
	h = append(h, binary.BigEndian.AppendUint64(nil, uint64(seq))[2:]...)
	h = binary.BigEndian.AppendUint16(h, uint16(count))
	return append(h, sum(b)...)
}

// byHand is a frame laid down by the chapter's words.
func byHand(seq int, data []byte) []byte {
	b := append(head(seq, len(data), data), data...)
	b = append(b, sum(b)...)
	for len(b)%64 != 0 {
		b = append(b, 0)
	}
	return b
}

// octetsOf are octets of a length, the same ones in each run of a source.
func octetsOf(r *rand.Rand, length int) []byte {
	b := make([]byte, length)
	r.Read(b)
	return b
}

// samples are frames of all lengths at the edges: noughts, ones, and mixed octets.
func samples(use func(api.Frame)) {
	r := rand.New(rand.NewSource(1))
	for i, length := range lengths {
		for k := range 3 {
			use(api.Frame{Seq: seqs[(i+k)%len(seqs)], Data: octetsOf(r, length)})
		}
		use(api.Frame{Seq: seqs[i%len(seqs)], Data: make([]byte, length)})
		use(api.Frame{Seq: seqs[i%len(seqs)], Data: bytes.Repeat([]byte{0xff}, length)})
	}
	for _, seq := range seqs {
		use(api.Frame{Seq: seq})
		use(api.Frame{Seq: seq, Data: []byte("abc")})
	}
}

func lay(t *testing.T, seq int, data string) []byte {
	t.Helper()
	b, e := frame.Lay(api.Frame{Seq: seq, Data: []byte(data)})
	if e != api.OK {
		t.Fatalf("Lay: error %d", e)
	}
	return b
}

func checkHead(t *testing.T, b []byte, seq, count int, e api.Errno) {
	t.Helper()
	gotSeq, gotCount, f := frame.Head(b)
	if gotSeq != seq || gotCount != count || f != e {
		t.Errorf("Head of %.20x (%d octets): %d, %d, %d; want %d, %d, %d", b, len(b), gotSeq, gotCount, f, seq, count, e)
	}
}

func checkRead(t *testing.T, b []byte, want api.Frame, size int, e api.Errno) {
	t.Helper()
	got, gotSize, f := frame.Read(b)
	if got.Seq != want.Seq || !bytes.Equal(got.Data, want.Data) || gotSize != size || f != e {
		t.Errorf("Read of %.80x (%d octets): %d %.40x, %d, %d; want %d %.40x, %d, %d", b, len(b), got.Seq, got.Data, gotSize, f, want.Seq, want.Data, size, e)
	}
}

// checkRefused: Read answers an error, and nothing beside it.
func checkRefused(t *testing.T, b []byte, e api.Errno) {
	t.Helper()
	checkRead(t, b, api.Frame{}, 0, e)
}

// P5.1

func TestMay(t *testing.T) {
	for _, length := range lengths {
		for _, seq := range seqs {
			if !frame.May(api.Frame{Seq: seq, Data: make([]byte, length)}) {
				t.Errorf("frame %d of %d octets may not be", seq, length)
			}
		}
		for _, seq := range noSeqs {
			if frame.May(api.Frame{Seq: seq, Data: make([]byte, length)}) {
				t.Errorf("frame %d of %d octets may be", seq, length)
			}
		}
	}
	for _, length := range []int{6001, 6002, 6016, 6060, 1 << 16, 1<<16 + 1, 1 << 20} {
		for _, seq := range append([]int{1, api.MaxSeq}, noSeqs...) {
			if frame.May(api.Frame{Seq: seq, Data: make([]byte, length)}) {
				t.Errorf("frame %d of %d octets may be", seq, length)
			}
		}
	}
	if frame.May(api.Frame{}) || !frame.May(api.Frame{Seq: 1}) {
		t.Error("May of a frame without octets")
	}
}

func TestLayAsTheDocumentSays(t *testing.T) {
	for _, c := range []struct {
		seq  int
		data string
		want []byte
	}{
		{1, "", []byte("\x62\x75\x72\x73" + "\x00\x00\x00\x00\x00\x01" + "\x00\x00" + "\x00\x00\x00\x00")},
		{1, "abc", []byte("\x62\x75\x72\x73" + "\x00\x00\x00\x00\x00\x01" + "\x00\x03" + "\x64\x8c\xbb\x73" + "abc")},
		{0x010203040506, "123456789", []byte("burs" + "\x01\x02\x03\x04\x05\x06" + "\x00\x09" + "\xfc\x89\x19\x18" + "123456789")},
		{api.MaxSeq, "\x00", []byte("burs" + "\xff\xff\xff\xff\xff\xff" + "\x00\x01" + "\xb1\xf7\x40\x4b" + "\x00")},
	} {
		want := append(c.want, sum(c.want)...)
		want = append(want, make([]byte, 64-len(want))...)
		if got := lay(t, c.seq, c.data); !bytes.Equal(got, want) {
			t.Errorf("Lay(%d, %q): %x; want %x", c.seq, c.data, got, want)
		}
	}
}

func TestLayOfSamples(t *testing.T) {
	samples(func(f api.Frame) {
		got, e := frame.Lay(f)
		if want := byHand(f.Seq, f.Data); e != api.OK || !bytes.Equal(got, want) {
			t.Errorf("Lay of %d, %d octets: %.80x (%d octets), %d; want %.80x (%d octets)", f.Seq, len(f.Data), got, len(got), e, want, len(want))
		}
		if len(got) != frame.Sectors(len(f.Data))*api.Sector {
			t.Errorf("Lay of %d octets: %d octets; want %d sectors", len(f.Data), len(got), frame.Sectors(len(f.Data)))
		}
	})
}

func TestLayOfWhatMayNotBe(t *testing.T) {
	refused := func(f api.Frame) {
		t.Helper()
		if b, e := frame.Lay(f); len(b) != 0 || e != api.ErrArg {
			t.Errorf("Lay of %d, %d octets: %d octets, %d", f.Seq, len(f.Data), len(b), e)
		}
	}
	refused(api.Frame{})
	for _, seq := range noSeqs {
		for _, length := range []int{0, 3, 44, 6000, 6001} {
			refused(api.Frame{Seq: seq, Data: make([]byte, length)})
		}
	}
	for _, seq := range seqs {
		for _, length := range []int{6001, 6002, 1 << 16, 1<<16 + 3, 1 << 20} {
			refused(api.Frame{Seq: seq, Data: make([]byte, length)})
		}
	}
}

func TestSectors(t *testing.T) {
	// Step by step: a sector more for each 64 octets that do not fit any more.
	want, room := 1, 44
	for n := 0; n <= 6000; n++ {
		if n > room {
			want, room = want+1, room+64
		}
		if got := frame.Sectors(n); got != want {
			t.Errorf("Sectors(%d): %d; want %d", n, got, want)
		}
	}
	for _, c := range []struct{ n, want int }{{0, 1}, {44, 1}, {45, 2}, {108, 2}, {109, 3}, {5996, 94}, {5997, 95}, {6000, 95}} {
		if got := frame.Sectors(c.n); got != c.want {
			t.Errorf("Sectors(%d): %d; want %d", c.n, got, c.want)
		}
	}
	for _, n := range []int{-1, -2, -20, -44, -64, -1 << 31, math.MinInt, math.MinInt + 1, 6001, 6002, 6060, 1 << 16, 1 << 31, 1 << 62, math.MaxInt - 83, math.MaxInt - 63, math.MaxInt - 1, math.MaxInt} {
		if got := frame.Sectors(n); got != 0 {
			t.Errorf("Sectors(%d): %d; want 0", n, got)
		}
	}
}

// P5.2

func TestHead(t *testing.T) {
	for _, seq := range seqs {
		for _, length := range lengths {
			h := head(seq, length, nil)
			checkHead(t, h, seq, length, api.OK)
			// What is behind it, and which sum it tells, plays no part.
			checkHead(t, append(h, "abc"...), seq, length, api.OK)
			copy(h[12:], "wxyz")
			checkHead(t, h, seq, length, api.OK)
		}
	}
	samples(func(f api.Frame) { checkHead(t, byHand(f.Seq, f.Data), f.Seq, len(f.Data), api.OK) })
}

func TestHeadOfFewOctets(t *testing.T) {
	checkHead(t, nil, 0, 0, api.ErrShort)
	whole := byHand(1, []byte("abc"))
	for length := range 16 {
		checkHead(t, whole[:length], 0, 0, api.ErrShort)
		checkHead(t, make([]byte, length), 0, 0, api.ErrShort)
		checkHead(t, bytes.Repeat([]byte{0xff}, length), 0, 0, api.ErrShort)
		checkRefused(t, whole[:length], api.ErrShort)
		checkRefused(t, make([]byte, length), api.ErrShort)
		checkRefused(t, bytes.Repeat([]byte{0xff}, length), api.ErrShort)
	}
	checkRefused(t, nil, api.ErrShort)
}

func TestHeadThatDoesNotBeginAsOne(t *testing.T) {
	for i := range 4 {
		for octet := range 256 {
			b := byHand(7, []byte("abc"))
			if b[i] == byte(octet) {
				continue
			}
			b[i] = byte(octet)
			checkHead(t, b, 0, 0, api.ErrForm)
			checkHead(t, b[:16], 0, 0, api.ErrForm)
			checkRefused(t, b, api.ErrForm)
		}
	}
	for _, s := range []string{"srub", "BURS", "bur\x00", "\x00bur", "urs ", "bsru"} {
		b := byHand(7, nil)
		copy(b, s)
		checkHead(t, b, 0, 0, api.ErrForm)
		checkRefused(t, b, api.ErrForm)
	}
	for _, b := range [][]byte{make([]byte, 16), make([]byte, 64), make([]byte, 6400), bytes.Repeat([]byte{0xff}, 64)} {
		checkHead(t, b, 0, 0, api.ErrForm)
		checkRefused(t, b, api.ErrForm)
	}
}

func TestHeadOfNumberNought(t *testing.T) {
	for _, length := range lengths {
		b := byHand(0, make([]byte, length))
		checkHead(t, b, 0, 0, api.ErrForm)
		checkHead(t, b[:16], 0, 0, api.ErrForm)
		checkRefused(t, b, api.ErrForm)
	}
	// Each octet of a number counts.
	for i := range 6 {
		b := byHand(1<<(8*i), []byte("abc"))
		checkHead(t, b, 1<<(8*i), 3, api.OK)
		checkRead(t, b, api.Frame{Seq: 1 << (8 * i), Data: []byte("abc")}, 64, api.OK)
	}
}

func TestHeadOfTooManyOctets(t *testing.T) {
	for count := 5990; count < 1<<16; count++ {
		h := head(5, count, nil)
		if count <= 6000 {
			checkHead(t, h, 5, count, api.OK)
			continue
		}
		checkHead(t, h, 0, 0, api.ErrForm)
		checkRefused(t, h, api.ErrForm)
	}
	// Also if all else of such a frame were right.
	for _, count := range []int{6001, 6060, 1<<16 - 1} {
		checkRefused(t, byHand(5, make([]byte, count)), api.ErrForm)
	}
}

func TestRead(t *testing.T) {
	samples(func(f api.Frame) {
		b := byHand(f.Seq, f.Data)
		checkRead(t, b, f, len(b), api.OK)
	})
}

func TestReadOfMoreBehindIt(t *testing.T) {
	samples(func(f api.Frame) {
		b := byHand(f.Seq, f.Data)
		for _, more := range [][]byte{{0}, {1}, make([]byte, 63), make([]byte, 64), bytes.Repeat([]byte{0xff}, 65), byHand(9, []byte("xyz")), b} {
			checkRead(t, append(bytes.Clone(b), more...), f, len(b), api.OK)
		}
	})
}

func TestReadOfFewerSectors(t *testing.T) {
	for _, length := range []int{0, 1, 44, 45, 108, 109, 6000} {
		b := byHand(3, bytes.Repeat([]byte{9}, length))
		for cut := 16; cut < len(b); cut++ {
			checkRefused(t, b[:cut], api.ErrShort)
		}
		// That there are too few comes ahead of a sum that is another one.
		b[13]++
		checkRefused(t, b[:len(b)-1], api.ErrShort)
		checkRefused(t, b[:16], api.ErrShort)
		// And a head that is none ahead of that.
		b[0]++
		checkRefused(t, b[:len(b)-1], api.ErrForm)
	}
}

func TestReadOfAnotherSum(t *testing.T) {
	for _, length := range []int{0, 1, 3, 44, 45, 1000, 6000} {
		data := bytes.Repeat([]byte{0x5a}, length)
		// Only the octets' sum is wrong: the one behind it is right.
		b := append(head(3, length, append(data, 1)), data...)
		b = append(b, sum(b)...)
		b = append(b, make([]byte, -len(b)&63)...)
		checkRefused(t, b, api.ErrSum)
		// Only the sum behind is wrong: all ones of its octets, and each single bit.
		for i := range 32 {
			b := byHand(3, data)
			b[16+length+i/8] ^= 1 << (i % 8)
			checkRefused(t, b, api.ErrSum)
		}
		// A number that is another one is told by the sum behind alone.
		b = byHand(3, data)
		b[9] = 4
		checkRefused(t, b, api.ErrSum)
		// A sum that is another one comes ahead of octets behind that are not noughts.
		if end := 16 + length + 4; end < len(b) {
			b[end] = 1
			checkRefused(t, b, api.ErrSum)
		}
	}
}

func TestReadOfSumsInAnotherOrder(t *testing.T) {
	// Of the octets alone, of these and then the head, and lowest octets first.
	data := []byte("abcdef")
	h := head(3, len(data), data)
	for _, last := range [][]byte{sum(data), sum(h), sum(append(bytes.Clone(data), h...)), make([]byte, 4)} {
		b := append(append(bytes.Clone(h), data...), last...)
		b = append(b, make([]byte, 64-len(b))...)
		checkRefused(t, b, api.ErrSum)
	}
	b := byHand(3, data)
	b[22], b[23], b[24], b[25] = b[25], b[24], b[23], b[22]
	checkRefused(t, b, api.ErrSum)
}

func TestReadOfWhatIsBehind(t *testing.T) {
	for _, length := range []int{0, 1, 3, 43, 44, 45, 46, 108, 109, 6000} {
		data := bytes.Repeat([]byte{0x33}, length)
		whole := byHand(3, data)
		for i := 16 + length + 4; i < len(whole); i++ {
			for _, octet := range []byte{1, 0x20, 0x80, 0xff} {
				b := bytes.Clone(whole)
				b[i] = octet
				checkRefused(t, b, api.ErrForm)
			}
		}
	}
}

// P5.3

func TestWhatIsLaidIsRead(t *testing.T) {
	r := rand.New(rand.NewSource(2))
	for range 500 {
		f := api.Frame{Seq: 1 + r.Intn(api.MaxSeq), Data: octetsOf(r, r.Intn(api.MaxData+1))}
		b, e := frame.Lay(f)
		if e != api.OK {
			t.Fatalf("Lay: %d", e)
		}
		checkRead(t, b, f, len(b), api.OK)
		checkRead(t, append(bytes.Clone(b), octetsOf(r, r.Intn(200))...), f, len(b), api.OK)
	}
	samples(func(f api.Frame) {
		b, _ := frame.Lay(f)
		checkRead(t, b, f, len(b), api.OK)
		checkHead(t, b, f.Seq, len(f.Data), api.OK)
	})
}

func TestFramesOneBehindTheOther(t *testing.T) {
	r := rand.New(rand.NewSource(3))
	var all []byte
	var l []api.Frame
	for k := range 60 {
		l = append(l, api.Frame{Seq: k + 1, Data: octetsOf(r, r.Intn(300))})
		b, _ := frame.Lay(l[k])
		all = append(all, b...)
	}
	for _, f := range l {
		size := len(byHand(f.Seq, f.Data))
		checkRead(t, all, f, size, api.OK)
		all = all[size:]
	}
}

// turned are octets with some bits, from a place on, turned over: the highest bit of a pattern first.
func turned(b []byte, at, count int, pattern uint32) []byte {
	l := bytes.Clone(b)
	for i := range count {
		if pattern>>(count-1-i)&1 == 1 {
			l[(at+i)/8] ^= 0x80 >> ((at + i) % 8)
		}
	}
	return l
}

// checkTurned: a frame of which bits beside one another are turned over is refused, but where they say how many octets there are.
func checkTurned(t *testing.T, whole []byte, at, count int, pattern uint32) {
	t.Helper()
	b := turned(whole, at, count, pattern)
	f, size, e := frame.Read(b)
	if b[10] == whole[10] && b[11] == whole[11] && e == api.OK {
		t.Errorf("%.40x, of which %d bits from %d on are turned over, is read", whole, count, at)
	}
	if e != api.OK && (f.Seq != 0 || len(f.Data) != 0 || size != 0) {
		t.Errorf("beside %d: %d %x, %d", e, f.Seq, f.Data, size)
	}
}

func TestBitsTurnedOverBesideOneAnother(t *testing.T) {
	r := rand.New(rand.NewSource(4))
	for _, length := range []int{0, 1, 3, 20, 44, 45} {
		whole := byHand(1+r.Intn(api.MaxSeq), octetsOf(r, length))
		for at := range len(whole) * 8 {
			for count := 1; count <= min(32, len(whole)*8-at); count++ {
				all, ends := uint32(1<<count-1), uint32(1)<<(count-1)|1
				checkTurned(t, whole, at, count, all)
				checkTurned(t, whole, at, count, ends)
				checkTurned(t, whole, at, count, ends|r.Uint32()&all)
			}
		}
	}
}

func TestBitsTurnedOverInLongFrames(t *testing.T) {
	r := rand.New(rand.NewSource(5))
	for _, length := range []int{500, 6000} {
		whole := byHand(1+r.Intn(api.MaxSeq), octetsOf(r, length))
		behind := append(bytes.Clone(whole), byHand(2, []byte("behind"))...)
		for range 1500 {
			at := r.Intn(len(whole)*8 - 31)
			if pattern := r.Uint32(); pattern != 0 {
				checkTurned(t, whole, at, 32, pattern)
				checkTurned(t, behind, at, 32, pattern)
			}
		}
	}
}

func TestAnyOctetsAreAnswered(t *testing.T) {
	// With a head that tells any count: what there is not is not read.
	r := rand.New(rand.NewSource(6))
	for range 20000 {
		b := octetsOf(r, r.Intn(400))
		if len(b) >= 16 {
			copy(b, head(r.Intn(3), r.Intn(500), nil)[:12])
		}
		f, size, e := frame.Read(b)
		if e == api.OK && !bytes.Equal(byHand(f.Seq, f.Data), b[:size]) {
			t.Errorf("Read of %x: %d %x", b, f.Seq, f.Data)
		}
	}
}

func TestTheExamples(t *testing.T) {
	if b := lay(t, 1, "abc"); len(b) != api.Sector {
		t.Errorf("Lay(1, abc): %d octets", len(b))
	}
	if a, b := frame.Sectors(44), frame.Sectors(45); a != 1 || b != 2 {
		t.Errorf("Sectors: %d, %d", a, b)
	}
	checkRefused(t, make([]byte, api.Sector), api.ErrForm)
}

// R3: what is handed in stays as it is and is not kept, and what is answered is new memory.

func TestOctetsThatAreHandedInStay(t *testing.T) {
	whole := bytes.Repeat([]byte{0xaa}, 300)
	data := whole[:20]
	before := bytes.Clone(whole)
	laid, e := frame.Lay(api.Frame{Seq: 4, Data: data})
	if e != api.OK || !bytes.Equal(whole, before) {
		t.Errorf("Lay changed what was handed in: %x", whole)
	}
	copy(whole, "xxxxxxxxxxxxxxxxxxxxxxxx")
	if !bytes.Equal(laid, byHand(4, before[:20])) {
		t.Error("Lay kept what was handed in")
	}
	copy(whole, laid)
	before = bytes.Clone(whole)
	f, _, e := frame.Read(whole)
	frame.Head(whole)
	if e != api.OK || !bytes.Equal(whole, before) {
		t.Errorf("Read changed what was handed in: %x", whole)
	}
	copy(whole[16:], "yyyyyyyyyyyyyyyyyyyyyyyyyyyyy")
	if !bytes.Equal(f.Data, bytes.Repeat([]byte{0xaa}, 20)) {
		t.Errorf("Read kept what was handed in: %x", f.Data)
	}
	before = bytes.Clone(whole)
	copy(f.Data, "zzzzzzzzzzzzzzzzzzzz")
	_ = append(f.Data, "zzzz"...)
	if !bytes.Equal(whole, before) {
		t.Error("what is read has memory in common with what was handed in")
	}
}

func TestTheSameIsAnsweredAgain(t *testing.T) {
	first := lay(t, 6, "the same")
	want := bytes.Clone(first)
	copy(first, "others")
	lay(t, 7, "others")
	if got := lay(t, 6, "the same"); !bytes.Equal(got, want) {
		t.Errorf("%x; want %x", got, want)
	}
}
