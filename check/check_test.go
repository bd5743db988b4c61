package check_test

import (
	"bytes"
	"hash/crc32"
	"math/bits"
	"math/rand"
	"testing"

	"bursar/api"
	"bursar/check"
)

// sumByBits is the sum by the chapter's own words, bit by bit.
func sumByBits(b []byte) uint32 {
	word := uint32(0xffffffff)
	for _, octet := range b {
		word ^= uint32(octet) << 24
		for range 8 {
			fell := word >> 31
			word <<= 1
			if fell == 1 {
				word ^= 0x04c11db7
			}
		}
	}
	return word ^ 0xffffffff
}

// sumByLibrary is the sum by the library, whose bits lie the other way round.
func sumByLibrary(b []byte) uint32 {
	turned := make([]byte, len(b))
	for i, octet := range b {
		turned[i] = bits.Reverse8(octet)
	}
	return bits.Reverse32(crc32.ChecksumIEEE(turned))
}

// sealedByHand is what Seal promises, made in another way than the program's.
func sealedByHand(b []byte) []byte {
	sum := sumByBits(b)
	l := bytes.Clone(b)
	for i := range 4 {
		l = append(l, byte(sum>>(24-8*i)))
	}
	return l
}

// octets of a length, the same ones in each run of a source.
func octetsOf(r *rand.Rand, length int) []byte {
	b := make([]byte, length)
	r.Read(b)
	return b
}

// samples are octets of many lengths: noughts, ones, some of one bit, and mixed ones.
func samples(use func([]byte)) {
	r := rand.New(rand.NewSource(1))
	for length := range 70 {
		use(make([]byte, length))
		use(bytes.Repeat([]byte{0xff}, length))
		for i := range length {
			b := make([]byte, length)
			b[i] = 1 << (i % 8)
			use(b)
		}
		for range 10 {
			use(octetsOf(r, length))
		}
	}
	for _, length := range []int{127, 128, 255, 256, 257, 511, 512, 513, 6000, 6016, 1<<16 - 1, 1 << 16, 1<<16 + 1, 1 << 20} {
		use(octetsOf(r, length))
		use(make([]byte, length))
	}
}

// cuts are octets in all ways of being laid in up to three parts, which may be without octets.
func cuts(b []byte, use func(...[]byte)) {
	use(b)
	for i := range len(b) + 1 {
		use(b[:i], b[i:])
		for j := i; j <= len(b); j++ {
			use(b[:i], b[i:j], b[j:])
		}
	}
}

// turned are octets with some bits, from a place on, turned over: the highest bit of a pattern first.
func turned(b []byte, at, count int, pattern uint32) []byte {
	l := bytes.Clone(b)
	for i := range count {
		if pattern>>(count-1-i)&1 == 1 {
			l[(at+i)/8] ^= 0x80 >> ((at + i) % 8)
		}
	}
	return l
}

func checkSum(t *testing.T, want uint32, parts ...[]byte) {
	t.Helper()
	if got := check.Sum(parts...); got != want {
		t.Errorf("Sum of %.40x: %08x; want %08x", parts, got, want)
	}
}

func checkOpen(t *testing.T, b, want []byte, e api.Errno) {
	t.Helper()
	got, f := check.Open(b)
	if f != e || !bytes.Equal(got, want) {
		t.Errorf("Open(%.40x): %.40x, %d; want %.40x, %d", b, got, f, want, e)
	}
}

// P3.1

func TestSumAsTheDocumentSays(t *testing.T) {
	checkSum(t, 0xfc891918, []byte("123456789"))
	checkSum(t, 0)
	checkSum(t, 0, nil)
	checkSum(t, 0, []byte{})
	checkSum(t, 0, nil, []byte{}, nil)
}

func TestSumOfKnownOctets(t *testing.T) {
	for _, c := range []struct {
		b    []byte
		want uint32
	}{
		{[]byte{0}, 0xb1f7404b},
		{[]byte{0xff}, 0x000000ff},
		{[]byte{0, 0, 0, 0}, 0x38fb2284},
		{[]byte{0xff, 0xff, 0xff, 0xff}, 0xffffffff},
		{[]byte("a"), 0x19939b6b},
		{[]byte("abc"), 0x648cbb73},
	} {
		checkSum(t, c.want, c.b)
	}
}

func TestSumOfEachOctet(t *testing.T) {
	// Behind none, and behind octets that make the word start as each other one does.
	for i := range 256 {
		checkSum(t, sumByBits([]byte{byte(i)}), []byte{byte(i)})
		for j := range 256 {
			b := []byte{byte(i), byte(j)}
			checkSum(t, sumByBits(b), b)
		}
	}
}

func TestSumOfSamples(t *testing.T) {
	samples(func(b []byte) {
		checkSum(t, sumByBits(b), b)
		checkSum(t, sumByLibrary(b), b)
	})
}

func TestSumOfOctetsInParts(t *testing.T) {
	r := rand.New(rand.NewSource(2))
	for length := range 20 {
		b := octetsOf(r, length)
		want := sumByBits(b)
		cuts(b, func(parts ...[]byte) { checkSum(t, want, parts...) })
	}
}

func TestSumOfManyParts(t *testing.T) {
	r := rand.New(rand.NewSource(3))
	for range 200 {
		b := octetsOf(r, r.Intn(2000))
		var parts [][]byte
		for rest := b; len(rest) > 0; {
			n := r.Intn(min(len(rest), 40) + 1)
			parts, rest = append(parts, rest[:n]), rest[n:]
		}
		checkSum(t, sumByBits(b), parts...)
	}
	checkSum(t, 0, make([][]byte, 10000)...)
	// Octet by octet, with nothing between them.
	var single [][]byte
	for i := range 9 {
		single = append(single, []byte{}, []byte{'1' + byte(i)}, nil)
	}
	checkSum(t, 0xfc891918, single...)
}

func TestSumHangsOnTheOrderOfParts(t *testing.T) {
	checkSum(t, sumByBits([]byte("789123456")), []byte("789"), []byte("123456"))
	if check.Sum([]byte("789"), []byte("123456")) == check.Sum([]byte("123456"), []byte("789")) {
		t.Error("Sum of parts in another order is the same")
	}
	// Noughts ahead, and behind, are octets like others.
	checkSum(t, sumByBits([]byte("\x00a")), []byte{0}, []byte("a"))
	checkSum(t, sumByBits([]byte("a\x00")), []byte("a"), []byte{0})
}

func TestSumOfPartsThatShareOctets(t *testing.T) {
	b := []byte("123456789")
	checkSum(t, sumByBits([]byte("123456789123456789")), b, b)
	checkSum(t, sumByBits([]byte("1234534567")), b[:5], b[2:7])
}

func TestSumIsTheSameAgain(t *testing.T) {
	b := []byte("a sum hangs on its octets alone")
	want := check.Sum(b)
	check.Sum([]byte("others"))
	check.Seal([]byte("between"))
	checkSum(t, want, b)
}

// P3.2

func TestSealAsTheDocumentSays(t *testing.T) {
	for _, c := range []struct{ b, want string }{
		{"", "\x00\x00\x00\x00"},
		{"123456789", "123456789\xfc\x89\x19\x18"}, // the highest octet first
		{"\x00", "\x00\xb1\xf7\x40\x4b"},
		{"\xff", "\xff\x00\x00\x00\xff"},
		{"\xff\xff\xff\xff", "\xff\xff\xff\xff\xff\xff\xff\xff"},
	} {
		if got := check.Seal([]byte(c.b)); string(got) != c.want {
			t.Errorf("Seal(%x): %x; want %x", c.b, got, c.want)
		}
	}
	if got := check.Seal(nil); !bytes.Equal(got, make([]byte, 4)) {
		t.Errorf("Seal of nothing: %x", got)
	}
}

func TestSealOfSamples(t *testing.T) {
	samples(func(b []byte) {
		if got := check.Seal(b); !bytes.Equal(got, sealedByHand(b)) {
			t.Errorf("Seal(%.40x): %.40x", b, got)
		}
	})
}

func TestOpenOfFewOctets(t *testing.T) {
	checkOpen(t, nil, nil, api.ErrShort)
	checkOpen(t, []byte{}, nil, api.ErrShort)
	for length := range 4 {
		for _, octet := range []byte{0, 1, 0x80, 0xff} {
			checkOpen(t, bytes.Repeat([]byte{octet}, length), nil, api.ErrShort)
		}
		// What is sealed, but cut off.
		checkOpen(t, check.Seal([]byte("abc"))[:length], nil, api.ErrShort)
	}
}

func TestOpenOfFourOctets(t *testing.T) {
	checkOpen(t, []byte{0, 0, 0, 0}, nil, api.OK)
	for i := range 32 {
		checkOpen(t, turned(make([]byte, 4), i, 1, 1), nil, api.ErrSum)
	}
	checkOpen(t, []byte{0xff, 0xff, 0xff, 0xff}, nil, api.ErrSum)
}

func TestOpenOfFiveOctets(t *testing.T) {
	for i := range 256 {
		b := []byte{byte(i)}
		checkOpen(t, sealedByHand(b), b, api.OK)
		for j := range 40 {
			checkOpen(t, turned(sealedByHand(b), j, 1, 1), nil, api.ErrSum)
		}
	}
	checkOpen(t, make([]byte, 5), nil, api.ErrSum)
}

func TestOpenOfWhatIsNotSealed(t *testing.T) {
	for _, s := range []string{
		"123456789\x18\x19\x89\xfc", // the lowest octet first
		"123456789\x03\x76\xe6\xe7", // all bits of the sum turned over
		"123456789\xcb\xf4\x39\x26", // the sum whose bits lie the other way round
		"\xfc\x89\x19\x18123456789", // the sum ahead
		"123456789",
		"123456789\xfc\x89\x19",
		"123456789\xfc\x89\x19\x18\x00",
		"\x00123456789\xfc\x89\x19\x18",
		"23456789\xfc\x89\x19\x18",
		"12345678\xfc\x89\x19\x18",
		"213456789\xfc\x89\x19\x18",
	} {
		checkOpen(t, []byte(s), nil, api.ErrSum)
	}
}

func TestOpenOfSamples(t *testing.T) {
	samples(func(b []byte) {
		if len(b) < 4 {
			checkOpen(t, b, nil, api.ErrShort)
			return
		}
		body := b[:len(b)-4]
		if bytes.Equal(sealedByHand(body), b) {
			checkOpen(t, b, body, api.OK)
			return
		}
		checkOpen(t, b, nil, api.ErrSum)
	})
}

// P3.3

func TestWhatIsSealedIsOpened(t *testing.T) {
	samples(func(b []byte) {
		checkOpen(t, check.Seal(b), b, api.OK)
		// Sealed twice it is opened twice.
		once, e := check.Open(check.Seal(check.Seal(b)))
		if e != api.OK {
			t.Errorf("Open of what is sealed twice (%.40x): %d", b, e)
		}
		checkOpen(t, once, b, api.OK)
	})
}

func TestBitsTurnedOverBesideOneAnother(t *testing.T) {
	r := rand.New(rand.NewSource(4))
	for _, length := range []int{0, 1, 2, 3, 4, 5, 8, 11, 20, 60} {
		sealed := check.Seal(octetsOf(r, length))
		for at := range len(sealed) * 8 {
			for count := 1; count <= min(32, len(sealed)*8-at); count++ {
				all := uint32(1<<count - 1)
				ends := uint32(1)<<(count-1) | 1
				checkOpen(t, turned(sealed, at, count, all), nil, api.ErrSum)
				checkOpen(t, turned(sealed, at, count, ends), nil, api.ErrSum)
				checkOpen(t, turned(sealed, at, count, ends|r.Uint32()&all), nil, api.ErrSum)
			}
		}
	}
}

func TestEachWayOfTurningFewBitsOver(t *testing.T) {
	sealed := check.Seal([]byte("12345"))
	for at := range len(sealed) * 8 {
		for count := 1; count <= min(9, len(sealed)*8-at); count++ {
			for pattern := uint32(1); pattern < 1<<count; pattern++ {
				checkOpen(t, turned(sealed, at, count, pattern), nil, api.ErrSum)
			}
		}
	}
}

func TestManyWaysOfTurningBitsOver(t *testing.T) {
	r := rand.New(rand.NewSource(5))
	for _, length := range []int{0, 9, 508, 6000} {
		sealed := check.Seal(octetsOf(r, length))
		for range 2000 {
			at := r.Intn(len(sealed)*8 - 31)
			if pattern := r.Uint32(); pattern != 0 {
				checkOpen(t, turned(sealed, at, 32, pattern), nil, api.ErrSum)
			}
		}
	}
}

func TestThirtyThreeBitsMayStaySealed(t *testing.T) {
	// The bound is just 32: what a sum takes, with the bit that falls off ahead of
	// it, turned over anywhere, is not told from what was sealed.
	sealed := check.Seal([]byte("123456789"))
	for at := range len(sealed)*8 - 32 {
		other := turned(turned(sealed, at, 1, 1), at+1, 32, 0x04c11db7)
		checkOpen(t, other, other[:len(other)-4], api.OK)
	}
}

// R3: what is handed in stays as it is and is not kept, and what is answered is new memory.

func TestOctetsThatAreHandedInStay(t *testing.T) {
	for _, open := range []bool{false, true} {
		// There is room behind the octets, which is not theirs.
		whole := bytes.Repeat([]byte{0xaa}, 40)
		b := whole[:13]
		copy(b, check.Seal([]byte("123456789")))
		before := bytes.Clone(whole)
		check.Sum(b, b[:4])
		if open {
			check.Open(b)
		} else {
			check.Seal(b)
		}
		if !bytes.Equal(whole, before) {
			t.Errorf("octets that were handed in (to Open: %v) were changed: %x", open, whole)
		}
	}
}

func TestWhatIsAnsweredIsNewMemory(t *testing.T) {
	b := []byte("123456789")
	sealed := check.Seal(b)
	opened, _ := check.Open(sealed)
	copy(b, "xxxxxxxxx")
	if string(sealed) != "123456789\xfc\x89\x19\x18" {
		t.Errorf("what was sealed was kept: %x", sealed)
	}
	copy(sealed, "yyyyyyyyyyyyy")
	if string(opened) != "123456789" || string(b) != "xxxxxxxxx" {
		t.Errorf("what was opened was kept: %x, %x", opened, b)
	}
	copy(opened, "zzzzzzzzz")
	_ = append(opened, "zzzz"...)
	if string(sealed) != "yyyyyyyyyyyyy" {
		t.Errorf("what was opened has memory in common with what was sealed: %x", sealed)
	}
}
