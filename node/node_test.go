package node_test

import (
	"bytes"
	"encoding/binary"
	"hash/crc32"
	"math"
	"math/bits"
	"math/rand"
	"slices"
	"strconv"
	"strings"
	"testing"

	"bursar/api"
	"bursar/node"
)

// texts are some, each of one octet, and all of the same count.
func texts(octet string, counts ...int) []string {
	var all []string
	for _, count := range counts {
		all = append(all, strings.Repeat(octet, count))
	}
	return all
}

// pairsOf are pairs of keys and values, by turns.
func pairsOf(keysAndVals ...string) []api.Pair {
	var all []api.Pair
	for i := 0; i < len(keysAndVals); i += 2 {
		all = append(all, api.Pair{Key: keysAndVals[i], Val: keysAndVals[i+1]})
	}
	return all
}

func leafOf(keysAndVals ...string) api.Node {
	return api.Node{Pairs: pairsOf(keysAndVals...)}
}

// innerOf is a node of kids, with keys between them.
func innerOf(kids []int, keys ...string) api.Node {
	return api.Node{Kids: kids, Keys: keys}
}

// wide is a text of so many octets that comes in order by its number.
func wide(n, size int) string {
	return strings.Repeat("~", size-3) + strconv.Itoa(100+n)
}

// leafOfCount is a leaf of so many pairs, all as great as they may be, or as small.
func leafOfCount(count int, great bool) api.Node {
	var n api.Node
	for i := range count {
		p := api.Pair{Key: string(rune('a' + i))}
		if great {
			p = api.Pair{Key: wide(i, 24), Val: wide(i, 60)}
		}
		n.Pairs = append(n.Pairs, p)
	}
	return n
}

// innerOfCount is a node of so many kids and keys.
func innerOfCount(kids, keys int, great bool) api.Node {
	var n api.Node
	for i := range kids {
		n.Kids = append(n.Kids, 199-i)
	}
	for i := range keys {
		key := string(rune('a' + i))
		if great {
			key = wide(i, 24)
		}
		n.Keys = append(n.Keys, key)
	}
	return n
}

// rising are lists of keys that rise.
func rising() [][]string {
	return [][]string{
		{"a", "b"}, {"a", "aa"}, {"a", "a\x00"}, {"\x00", "\x00\x00"}, {"A", "a"}, {"10", "2"}, {"ab", "b"},
		{"\x7f", "\x80"}, {"\x80", "\xff"}, {"z", "\x80"}, {"a", "\xff"}, {"a\xff", "b"}, {"\xfe\xff", "\xff"}, {"\xff", "\xff\xff"},
		{"é", "ê"}, {"z", "é"}, {"a", "ab", "abc", "abd", "b"}, {strings.Repeat("k", 23), strings.Repeat("k", 24)},
		{"\x00", "\x01", "\x7f", "\x80", "\xff"},
	}
}

// notRising are lists of keys of which one comes ahead of the one ahead of it, or is there twice.
func notRising() [][]string {
	all := [][]string{
		{"a", "a"}, {"\xff", "\xff"}, {"a", "b", "b"}, {"a", "a", "b"}, {"a", "b", "a"}, {"b", "c", "a"}, {"b", "a", "c"},
		{"a", "c", "b", "d"}, {"a", "b", "c", "d", "d"}, {"b", "a", "c", "d", "e"}, {"a", "b", "c", "e", "d"},
		{strings.Repeat("k", 24), strings.Repeat("k", 24)},
	}
	for _, keys := range rising() {
		back := slices.Clone(keys)
		slices.Reverse(back)
		all = append(all, back)
	}
	return all
}

// leafBy is a leaf of keys, with values that tell nothing of their order.
func leafBy(keys []string) api.Node {
	var n api.Node
	for i, key := range keys {
		n.Pairs = append(n.Pairs, api.Pair{Key: key, Val: wide(9-i, 5)})
	}
	return n
}

// innerBy is an inner node of keys, with just as many kids as these ask for.
func innerBy(keys []string) api.Node {
	n := api.Node{Keys: keys}
	for i := range len(keys) + 1 {
		n.Kids = append(n.Kids, (i*7+3)%200)
	}
	return n
}

// nodes are some that may be, at all edges.
func nodes() []api.Node {
	all := []api.Node{{}, {Pairs: []api.Pair{}, Keys: []string{}, Kids: []int{}},
		leafOf("a", "xy"), leafOf("a", "", "b", "x"), leafOf("a", "same", "b", "same"), leafOf("\x00", "\x00"), leafOf("\x00\x00", "", "\x01", "\x00\x00\x00"),
		innerOf([]int{0, 199}, "k"), innerOf([]int{199, 0}, "k"), innerOf([]int{5, 4, 3}, "a", "b"), innerOf([]int{0, 1, 2, 3, 4, 5, 6, 7}, "a", "b", "c", "d", "e", "f", "g")}
	for _, great := range []bool{false, true} {
		for count := range 6 {
			all = append(all, leafOfCount(count, great))
		}
		for kids := 2; kids <= 8; kids++ {
			all = append(all, innerOfCount(kids, kids-1, great))
		}
	}
	for _, key := range append(texts("k", 1, 2, 23, 24), texts("\xff", 1, 24)...) {
		all = append(all, innerOf([]int{1, 2}, key))
		for _, val := range append(texts("v", 0, 1, 59, 60), texts("\xff", 1, 60)...) {
			all = append(all, leafOf(key, val))
		}
	}
	for _, keys := range rising() {
		all = append(all, leafBy(keys), innerBy(keys))
	}
	return all
}

// nonnodes are some of which one thing may not be.
func nonnodes() []api.Node {
	pair := pairsOf("a", "x")
	all := []api.Node{
		// A leaf with keys; an inner one with pairs; neither.
		{Keys: []string{"a"}}, {Pairs: pair, Keys: []string{"a"}}, {Pairs: pair, Keys: []string{""}},
		{Pairs: pair, Keys: []string{"b"}, Kids: []int{1, 2}}, {Pairs: pair, Kids: []int{1}}, {Pairs: pair, Kids: []int{1, 2}},
		{Pairs: make([]api.Pair, 1), Keys: []string{"b"}, Kids: []int{1, 2}},
		// Kids that there are not, or that are there twice.
		innerOf([]int{-1, 2}, "k"), innerOf([]int{2, -1}, "k"), innerOf([]int{200, 2}, "k"), innerOf([]int{2, 200}, "k"),
		innerOf([]int{2, 2}, "k"), innerOf([]int{0, 0}, "k"), innerOf([]int{199, 199}, "k"), innerOf([]int{1, 2, 1}, "a", "b"),
		innerOf([]int{1, 2, 2}, "a", "b"), innerOf([]int{1, 1, 2}, "a", "b"), innerOf([]int{0, 1, 2, 3, 4, 5, 6, 0}, "a", "b", "c", "d", "e", "f", "g"),
		innerOf([]int{0, 1, 2, 3, 4, 5, 6, 6}, "a", "b", "c", "d", "e", "f", "g"), innerOf([]int{0, 1, 2, 3, 4, 5, 6, 200}, "a", "b", "c", "d", "e", "f", "g"),
		// Keys and values that are none, wherever they stand.
		leafOf("", ""), leafOf("", "x"), leafOf("", "", "b", ""), leafOf("a", strings.Repeat("v", 61)), leafOf("a", strings.Repeat("v", 61), "b", ""),
		leafOf("a", "", "b", strings.Repeat("v", 61)), leafOf("a", "", strings.Repeat("k", 25), ""), leafOf(strings.Repeat("a", 25), "", "b", ""),
		innerOf([]int{1, 2, 3}, "", "b"), innerOf([]int{1, 2, 3}, "a", strings.Repeat("k", 25)), innerOf([]int{1, 2, 3}, strings.Repeat("a", 25), "b"),
	}
	for _, n := range []int{math.MinInt, math.MinInt + 1, -1 << 32, -1 << 16, -200, 201, 255, 256, 1 << 15, 1<<16 - 1, 1 << 16, 1<<16 + 1, 1 << 32, 1<<32 + 1, math.MaxInt} {
		all = append(all, innerOf([]int{n, 1}, "k"), innerOf([]int{1, n}, "k"), innerOf([]int{0, n, 2}, "a", "b"))
	}
	for _, great := range []bool{false, true} {
		for _, count := range []int{6, 7, 255, 256, 261, 512} {
			all = append(all, leafOfCount(count, great && count < 100))
		}
	}
	// The count of kids, and of keys beside them.
	for kids := range 11 {
		for keys := range 12 {
			if kids >= 2 && kids <= 8 && keys == kids-1 || kids == 0 && keys == 0 {
				continue
			}
			all = append(all, innerOfCount(kids, keys, false), innerOfCount(kids, keys, true))
		}
	}
	for _, count := range []int{199, 255, 256, 258, 300} {
		all = append(all, innerOfCount(count, count-1, false), innerOfCount(count, 1, false), innerOfCount(2, count, false))
	}
	for _, size := range []int{0, 25, 26, 255, 256, 257, 280, 65536 + 1} {
		key := strings.Repeat("k", size)
		all = append(all, leafOf(key, "x"), innerOf([]int{1, 2}, key))
	}
	for _, size := range []int{61, 62, 255, 256, 257, 316, 65536 + 1} {
		all = append(all, leafOf("a", strings.Repeat("v", size)))
	}
	for _, keys := range notRising() {
		all = append(all, leafBy(keys), innerBy(keys))
	}
	return all
}

// sealed are octets with their sum behind them by the library, whose bits lie the other way round.
func sealed(b []byte) []byte {
	turned := make([]byte, len(b))
	for i, octet := range b {
		turned[i] = bits.Reverse8(octet)
	}
	return binary.BigEndian.AppendUint32(bytes.Clone(b), bits.Reverse32(crc32.ChecksumIEEE(turned)))
}

// pageOf are octets with noughts behind them, and their sum.
func pageOf(parts ...any) []byte {
	var b []byte
	for _, part := range parts {
		switch x := part.(type) {
		case int:
			b = append(b, byte(x))
		case string:
			b = append(b, x...)
		}
	}
	return sealed(append(b, make([]byte, 508-len(b))...))
}

// byHand is a page laid by the chapter's words, whether such a node may be or not, if it finds room there.
func byHand(n api.Node) []byte {
	parts := []any{len(n.Kids)}
	if len(n.Kids) == 0 {
		parts = append(parts, len(n.Pairs))
		for _, p := range n.Pairs {
			parts = append(parts, len(p.Key), p.Key, len(p.Val), p.Val)
		}
	}
	for _, kid := range n.Kids {
		parts = append(parts, kid>>8, kid&255)
	}
	for _, key := range n.Keys {
		if len(n.Kids) > 0 {
			parts = append(parts, len(key), key)
		}
	}
	return pageOf(parts...)
}

// eye goes over a page, and sees where it is none.
type eye struct {
	b   []byte
	bad bool
}

func (y *eye) octets(count int) []byte {
	if y.bad || count > len(y.b) {
		y.bad = true
		return nil
	}
	taken := y.b[:count]
	y.b = y.b[count:]
	return taken
}

func (y *eye) number(low, high int) int {
	b := y.octets(1)
	if y.bad || int(b[0]) < low || int(b[0]) > high {
		y.bad = true
		return 0
	}
	return int(b[0])
}

func (y *eye) key(ahead string) string {
	key := string(y.octets(y.number(1, 24)))
	y.bad = y.bad || bytes.Compare([]byte(key), []byte(ahead)) <= 0
	return key
}

// byEye is what a page is whose sum is right, read by the chapter's words.
func byEye(b []byte) (api.Node, bool) {
	y := &eye{b: b[:508]}
	var n api.Node
	kids := y.number(0, 8)
	if kids == 1 {
		return n, false
	}
	last := ""
	if kids == 0 {
		for range y.number(0, 5) {
			last = y.key(last)
			n.Pairs = append(n.Pairs, api.Pair{Key: last, Val: string(y.octets(y.number(0, 60)))})
		}
	}
	seen := map[int]bool{}
	for range kids {
		kid := y.number(0, 0)<<8 + y.number(0, 199)
		y.bad = y.bad || seen[kid]
		seen[kid] = true
		n.Kids = append(n.Kids, kid)
	}
	for range max(kids-1, 0) {
		last = y.key(last)
		n.Keys = append(n.Keys, last)
	}
	if y.bad || !bytes.Equal(y.b, make([]byte, len(y.b))) {
		return api.Node{}, false
	}
	return n, true
}

// same: are two nodes the same, where a list that is nil and one without elements are?
func same(a, b api.Node) bool {
	return slices.Equal(a.Pairs, b.Pairs) && slices.Equal(a.Keys, b.Keys) && slices.Equal(a.Kids, b.Kids)
}

// kept is a node in memory of its own.
func kept(n api.Node) api.Node {
	return api.Node{Pairs: slices.Clone(n.Pairs), Keys: slices.Clone(n.Keys), Kids: slices.Clone(n.Kids)}
}

// checkMay: a node may be, or may not, and stays as it was.
func checkMay(t *testing.T, n api.Node, want bool) {
	t.Helper()
	before := kept(n)
	if may := node.May(n); may != want {
		t.Errorf("May of %#v: %t", n, may)
	}
	if !same(n, before) {
		t.Errorf("May changed %#v", before)
	}
}

// checkEncode: a node is encoded as this, and stays as it was.
func checkEncode(t *testing.T, n api.Node, want []byte, wantErr api.Errno) {
	t.Helper()
	before := kept(n)
	if b, e := node.Encode(n); !bytes.Equal(b, want) || e != wantErr {
		t.Errorf("Encode of %#v: %x, %d; want %x, %d", n, b, e, want, wantErr)
	}
	if !same(n, before) {
		t.Errorf("Encode changed %#v", before)
	}
}

// checkDecode: octets are decoded as this, and stay as they were.
func checkDecode(t *testing.T, b []byte, want api.Node, wantErr api.Errno) {
	t.Helper()
	before := bytes.Clone(b)
	if n, e := node.Decode(b); !same(n, want) || e != wantErr {
		t.Errorf("Decode of %x: %#v, %d; want %#v, %d", b, n, e, want, wantErr)
	}
	if !bytes.Equal(b, before) {
		t.Errorf("Decode changed %x", before)
	}
}

// checkNoPage: octets whose sum is right are no node's page, and those whose sum is another one are not sealed.
func checkNoPage(t *testing.T, b []byte) {
	t.Helper()
	checkDecode(t, b, api.Node{}, api.ErrForm)
	for _, bit := range []byte{1, 128} {
		damaged := bytes.Clone(b)
		damaged[511] ^= bit
		checkDecode(t, damaged, api.Node{}, api.ErrSum)
	}
}

// checkPage: octets whose sum is right are the page of what is read by eye, or of no node.
func checkPage(t *testing.T, b []byte) {
	t.Helper()
	if want, is := byEye(b); is {
		checkDecode(t, b, want, api.OK)
	} else {
		checkDecode(t, b, api.Node{}, api.ErrForm)
	}
}

// anyText is one of so many octets at most, of a few kinds, so that some begin alike.
func anyText(r *rand.Rand, least, most int) string {
	b := make([]byte, least+r.Intn(most-least+1))
	for i := range b {
		b[i] = "\x00ab\x7f\x80\xff"[r.Intn(6)]
	}
	return string(b)
}

// anyNode is one that may be.
func anyNode(r *rand.Rand) api.Node {
	var keys []string
	for range r.Intn(9) {
		keys = append(keys, anyText(r, 1, 1+r.Intn(24)))
	}
	slices.Sort(keys)
	keys = slices.Compact(keys)
	if r.Intn(2) == 0 && len(keys) > 0 {
		keys = keys[:min(len(keys), 7)]
		return innerOf(r.Perm(200)[:len(keys)+1], keys...)
	}
	var n api.Node
	for _, key := range keys[:min(len(keys), 5)] {
		n.Pairs = append(n.Pairs, api.Pair{Key: key, Val: anyText(r, 0, r.Intn(61))})
	}
	return n
}

// P8.1

func TestKey(t *testing.T) {
	for _, octet := range []string{"\x00", " ", "0", "k", "\x7f", "\x80", "\xff"} {
		for size := range 300 {
			if may := node.Key(strings.Repeat(octet, size)); may != (size >= 1 && size <= 24) {
				t.Errorf("Key of %d octets %#v: %t", size, octet, may)
			}
		}
	}
	for _, size := range []int{1 << 16, 1<<16 + 1, 1<<16 + 24, 1 << 20} {
		if node.Key(strings.Repeat("k", size)) {
			t.Errorf("Key of %d octets", size)
		}
	}
	// Octets are counted, not runes.
	for text, want := range map[string]int{strings.Repeat("é", 12): 1, strings.Repeat("é", 12) + "a": 0, strings.Repeat("é", 13): 0, strings.Repeat("日", 8): 1, strings.Repeat("日", 9): 0, "\xe6\x97": 1} {
		if node.Key(text) != (want == 1) {
			t.Errorf("Key of %#v: %t", text, want == 0)
		}
	}
}

func TestVal(t *testing.T) {
	for _, octet := range []string{"\x00", " ", "0", "v", "\x7f", "\x80", "\xff"} {
		for size := range 320 {
			if may := node.Val(strings.Repeat(octet, size)); may != (size <= 60) {
				t.Errorf("Val of %d octets %#v: %t", size, octet, may)
			}
		}
	}
	for _, size := range []int{1 << 16, 1<<16 + 60, 1 << 20} {
		if node.Val(strings.Repeat("v", size)) {
			t.Errorf("Val of %d octets", size)
		}
	}
	for text, want := range map[string]int{strings.Repeat("é", 30): 1, strings.Repeat("é", 31): 0, strings.Repeat("日", 20): 1, strings.Repeat("日", 21): 0} {
		if node.Val(text) != (want == 1) {
			t.Errorf("Val of %#v: %t", text, want == 0)
		}
	}
}

func TestMay(t *testing.T) {
	for _, n := range nodes() {
		checkMay(t, n, true)
	}
	for _, n := range nonnodes() {
		checkMay(t, n, false)
	}
}

func TestMayByCounts(t *testing.T) {
	for pairs := range 9 {
		for kids := range 12 {
			for keys := range 12 {
				n := innerOfCount(kids, keys, false)
				n.Pairs = leafOfCount(pairs, true).Pairs
				leaf := kids == 0 && keys == 0 && pairs <= 5
				inner := pairs == 0 && kids >= 2 && kids <= 8 && keys == kids-1
				checkMay(t, n, leaf || inner)
			}
		}
	}
}

func TestMayByKeysInOrder(t *testing.T) {
	keys := []string{"", "\x00", "\x00\x00", "a", "a\x00", "aa", "ab", "b", "\x7f", "\x80", "\x80a", "\xc3\xa9", "\xff", "\xff\x00", "\xff\xff", strings.Repeat("\xff", 24), strings.Repeat("\xff", 25)}
	for i, first := range keys {
		for j, second := range keys {
			may := 0 < i && i < j && j < len(keys)-1
			checkMay(t, leafOf(first, "y", second, "x"), may)
			checkMay(t, innerOf([]int{9, 8, 7}, first, second), may)
			for k, third := range keys {
				may := may && j < k && k < len(keys)-1
				checkMay(t, leafOf(first, "", second, "", third, ""), may)
				checkMay(t, innerOf([]int{9, 8, 7, 6}, first, second, third), may)
			}
		}
	}
}

func TestMayByKids(t *testing.T) {
	for kid := -300; kid <= 70000; kid++ {
		may := kid >= 0 && kid < 200
		checkMay(t, innerOf([]int{kid, (kid&127 + 1) % 128}, "k"), may)
		checkMay(t, innerOf([]int{(kid&127 + 1) % 128, kid}, "k"), may)
	}
	// Kids need not rise; but none is there twice, at whatever places.
	for i := range 8 {
		for j := range 8 {
			n := innerOfCount(8, 7, true)
			n.Kids[j] = n.Kids[i]
			checkMay(t, n, i == j)
		}
	}
}

// P8.2

func TestEncode(t *testing.T) {
	for _, n := range nodes() {
		checkEncode(t, n, byHand(n), api.OK)
	}
	for _, n := range nonnodes() {
		checkEncode(t, n, nil, api.ErrArg)
	}
}

func TestEncodeOctetForOctet(t *testing.T) {
	page := func(head ...byte) []byte {
		return sealed(append(head, make([]byte, 508-len(head))...))
	}
	checkEncode(t, leafOf("a", "xy"), page(0, 1, 1, 97, 2, 120, 121), api.OK)
	checkEncode(t, api.Node{}, page(0, 0), api.OK)
	checkEncode(t, leafOf("ab", "", "b", "z"), page(0, 2, 2, 97, 98, 0, 1, 98, 1, 122), api.OK)
	checkEncode(t, innerOf([]int{199, 0}, "mn"), page(2, 0, 199, 0, 0, 2, 109, 110), api.OK)
	checkEncode(t, innerOf([]int{3, 1, 2}, "m", "\xff"), page(3, 0, 3, 0, 1, 0, 2, 1, 109, 1, 255), api.OK)
	// As full as a leaf may be: what is behind 432 octets are noughts.
	b, e := node.Encode(leafOfCount(5, true))
	if e != api.OK || len(b) != 512 || b[431] == 0 || !bytes.Equal(b[432:508], make([]byte, 76)) {
		t.Errorf("the greatest leaf: %x, %d", b, e)
	}
}

func TestExamples(t *testing.T) {
	b, e := node.Encode(leafOf("a", "xy"))
	if e != api.OK || !bytes.HasPrefix(b, []byte{0, 1, 1, 97, 2, 120, 121}) {
		t.Errorf("a leaf of a: %x, %d", b, e)
	}
	checkEncode(t, innerOf([]int{1}), nil, api.ErrArg)
	checkDecode(t, make([]byte, 512), api.Node{}, api.ErrSum)
}

func TestDecode(t *testing.T) {
	for _, n := range nodes() {
		checkDecode(t, byHand(n), n, api.OK)
	}
}

func TestDecodeLength(t *testing.T) {
	for _, n := range []api.Node{{}, leafOf("a", "xy"), innerOfCount(8, 7, true)} {
		b := byHand(n)
		long := append(bytes.Clone(b), make([]byte, 600)...)
		for size := range len(long) {
			if size == 512 {
				continue
			}
			checkDecode(t, long[:size], api.Node{}, api.ErrShort)
			if size >= 4 {
				checkDecode(t, sealed(long[:size-4]), api.Node{}, api.ErrShort)
			}
		}
		// One octet less or more within, and the sum right again; two pages; and none.
		checkDecode(t, b[:511], api.Node{}, api.ErrShort)
		checkDecode(t, b[1:], api.Node{}, api.ErrShort)
		checkDecode(t, append(bytes.Clone(b), 0), api.Node{}, api.ErrShort)
		checkDecode(t, sealed(b[:507]), api.Node{}, api.ErrShort)
		checkDecode(t, sealed(append(bytes.Clone(b[:508]), 0)), api.Node{}, api.ErrShort)
		checkDecode(t, append(bytes.Clone(b), b...), api.Node{}, api.ErrShort)
	}
	checkDecode(t, nil, api.Node{}, api.ErrShort)
	checkDecode(t, []byte{}, api.Node{}, api.ErrShort)
}

func TestDecodeOfWhatIsNotSealed(t *testing.T) {
	checkDecode(t, bytes.Repeat([]byte{255}, 512), api.Node{}, api.ErrSum)
	for _, n := range []api.Node{{}, leafOf("a", "xy"), innerOfCount(8, 7, true)} {
		for i := range 512 {
			for _, turned := range []byte{1, 2, 128, 255} {
				b := byHand(n)
				b[i] ^= turned
				checkDecode(t, b, api.Node{}, api.ErrSum)
			}
		}
		// The sum by another order of its octets, and of the page with the sum's noughts.
		b := byHand(n)
		checkDecode(t, append(bytes.Clone(b[:508]), b[511], b[510], b[509], b[508]), api.Node{}, api.ErrSum)
		checkDecode(t, append(bytes.Clone(b[:508]), 0, 0, 0, 0), api.Node{}, api.ErrSum)
	}
}

func TestDecodeOfEachOctetAnotherOne(t *testing.T) {
	for _, n := range []api.Node{{}, leafOf("b", "xy"), leafOf("a", "\x00", "ab", "", "b", "v"), innerOf([]int{7, 0}, "k"), innerOf([]int{7, 199, 3}, "k", "ka")} {
		used := len(bytes.TrimRight(byHand(n)[:508], "\x00")) + 3
		for i := range 508 {
			for octet := range 256 {
				// Far behind the parts one octet is like another.
				if i > used && octet > 1 && octet < 255 {
					continue
				}
				b := byHand(n)
				b[i] = byte(octet)
				checkPage(t, sealed(b[:508]))
			}
		}
	}
}

func TestDecodeOfHeads(t *testing.T) {
	// Whatever the first two octets are, ahead of pairs, kids or noughts.
	for first := range 256 {
		for second := range 256 {
			checkPage(t, pageOf(first, second))
			checkPage(t, pageOf(first, second, 1, "a", 0, 1, "b", 2, "xy"))
			checkPage(t, pageOf(first, second, 0, 5, 0, 4, 1, "k", 1, "l"))
		}
	}
	// One kid; and more of them than there may be, each with its key, as far as the page goes.
	checkNoPage(t, pageOf(1))
	checkNoPage(t, pageOf(1, 0, 5))
	checkNoPage(t, pageOf(1, 0, 5, 1, "k"))
	for _, kids := range []int{9, 10, 100} {
		checkNoPage(t, byHand(innerOfCount(kids, kids-1, false)))
	}
	for _, kids := range []int{9, 200, 253, 254, 255} {
		checkNoPage(t, pageOf(kids))
		checkNoPage(t, sealed(append([]byte{byte(kids)}, bytes.Repeat([]byte{0, 1}, 254)...)[:508]))
	}
}

func TestDecodeOfTooManyPairs(t *testing.T) {
	for _, pairs := range []int{6, 7, 50} {
		checkNoPage(t, byHand(leafOfCount(pairs, false)))
	}
	// Told, but not there; and fewer told than there are.
	for _, pairs := range []int{2, 5, 6, 255} {
		checkNoPage(t, pageOf(0, pairs, 1, "a", 2, "xy"))
	}
	checkNoPage(t, pageOf(0, 0, 1, "a", 2, "xy"))
	checkNoPage(t, pageOf(0, 1, 1, "a", 2, "xy", 1, "b", 0))
}

func TestDecodeOfLengths(t *testing.T) {
	// A key's, the first one's and the last one's, of a leaf and of an inner node.
	for _, size := range []int{0, 25, 26, 100, 255} {
		key := strings.Repeat("k", size)
		checkNoPage(t, byHand(leafOf(key, "x")))
		checkNoPage(t, byHand(leafOf("a", "x", key, "y")))
		checkNoPage(t, byHand(leafOf(key, "x", "z", "y")))
		checkNoPage(t, byHand(innerOf([]int{1, 2}, key)))
		checkNoPage(t, byHand(innerOf([]int{1, 2, 3}, "a", key)))
		checkNoPage(t, byHand(innerOf([]int{1, 2, 3}, key, "z")))
		// Told, but not there.
		checkNoPage(t, pageOf(0, 1, size, "k", 1, "v"))
		checkNoPage(t, pageOf(0, 5, 1, "a", 0, 1, "b", 0, 1, "c", 0, 1, "d", 0, size))
		checkNoPage(t, pageOf(2, 0, 1, 0, 2, size))
	}
	for _, size := range []int{61, 62, 128, 255} {
		val := strings.Repeat("v", size)
		checkNoPage(t, byHand(leafOf("a", val)))
		checkNoPage(t, byHand(leafOf("a", val, "b", "")))
		checkNoPage(t, byHand(leafOf("a", "", "b", val)))
		checkNoPage(t, pageOf(0, 1, 1, "a", size))
		checkNoPage(t, pageOf(0, 1, 1, "a", size, "v"))
	}
	// Two lengths of which one is too great: the rest of the page is just that.
	checkNoPage(t, byHand(leafOf("a", strings.Repeat("v", 255), "b", strings.Repeat("v", 245))))
	checkNoPage(t, byHand(leafOf(strings.Repeat("k", 250), strings.Repeat("v", 254))))
}

func TestDecodeOfPartsBehindThePage(t *testing.T) {
	// Lengths that go on to the page's last octet, and one or more beyond it.
	for last := 200; last < 256; last++ {
		parts := []any{0, 2, 1, "a", 255, strings.Repeat("v", 255), 1, "b", last}
		checkNoPage(t, pageOf(append(parts, strings.Repeat("w", 245))...))
		parts = []any{0, 2, 255, strings.Repeat("k", 255), 0, last}
		checkNoPage(t, pageOf(append(parts, strings.Repeat("l", 248))...))
		checkNoPage(t, sealed(bytes.Repeat([]byte{byte(last)}, 508)))
	}
	for first := range 256 {
		for _, second := range []int{0, 1, 5, 6, 24, 60, 255} {
			checkPage(t, sealed(append([]byte{byte(first)}, bytes.Repeat([]byte{byte(second)}, 507)...)))
		}
	}
}

func TestDecodeOfKeysThatDoNotRise(t *testing.T) {
	for _, keys := range notRising() {
		checkNoPage(t, byHand(leafBy(keys)))
		checkNoPage(t, byHand(innerBy(keys)))
	}
	for _, keys := range rising() {
		checkDecode(t, byHand(leafBy(keys)), leafBy(keys), api.OK)
		checkDecode(t, byHand(innerBy(keys)), innerBy(keys), api.OK)
	}
}

func TestDecodeOfKids(t *testing.T) {
	for kid := range 65536 {
		b := pageOf(2, kid>>8, kid&255, 0, 9, 1, "k")
		if kid < 200 && kid != 9 {
			checkDecode(t, b, innerOf([]int{kid, 9}, "k"), api.OK)
		} else {
			checkDecode(t, b, api.Node{}, api.ErrForm)
		}
	}
	for i := range 8 {
		for _, kid := range []int{200, 255, 256, 1 << 15, 65535} {
			n := innerOfCount(8, 7, true)
			n.Kids[i] = kid
			checkNoPage(t, byHand(n))
		}
		n := innerOfCount(8, 7, true)
		n.Kids[i] = n.Kids[(i+1)%8]
		checkNoPage(t, byHand(n))
	}
}

func TestDecodeOfOctetsBehind(t *testing.T) {
	for _, n := range []api.Node{{}, leafOf("a", "xy"), leafOfCount(5, true), innerOf([]int{1, 2}, "k"), innerOfCount(8, 7, true)} {
		used := len(bytes.TrimRight(byHand(n)[:508], "\x00"))
		if len(n.Pairs)+len(n.Kids) == 0 {
			used = 2
		}
		for i := used; i < 508; i++ {
			for _, octet := range []byte{1, 128, 255} {
				b := byHand(n)
				b[i] = octet
				checkNoPage(t, sealed(b[:508]))
			}
		}
	}
}

func TestDecodeOfRandomPages(t *testing.T) {
	r := rand.New(rand.NewSource(8))
	pages := 0
	for range 20000 {
		b := byHand(anyNode(r))[:508]
		used := len(bytes.TrimRight(b, "\x00")) + 4
		for range r.Intn(3) {
			at := r.Intn(min(used, 508))
			b[at] = []byte{0, 1, 2, 9, 24, 25, 60, 61, 255, b[at] + 1, b[at] - 1, byte(r.Intn(256))}[r.Intn(12)]
		}
		if _, is := byEye(b); is {
			pages++
		}
		checkPage(t, sealed(b))
	}
	if pages < 2000 || pages > 18000 {
		t.Errorf("%d of them are nodes' pages: that tests little", pages)
	}
}

// P8.3

func TestEncodedIsDecoded(t *testing.T) {
	r := rand.New(rand.NewSource(83))
	all := nodes()
	for range 5000 {
		all = append(all, anyNode(r))
	}
	for _, n := range all {
		b, e := node.Encode(n)
		if e != api.OK || len(b) != 512 {
			t.Fatalf("Encode of %#v: %d octets, %d", n, len(b), e)
		}
		checkMay(t, n, true)
		checkDecode(t, b, n, api.OK)
	}
}

func TestPagesAreTheSameJustIfNodesAre(t *testing.T) {
	r := rand.New(rand.NewSource(38))
	all := nodes()
	for range 300 {
		all = append(all, anyNode(r))
	}
	var pages [][]byte
	for _, n := range all {
		b, e := node.Encode(n)
		if e != api.OK {
			t.Fatalf("Encode of %#v: %d", n, e)
		}
		pages = append(pages, b)
	}
	for i, a := range all {
		for j, b := range all {
			if same(a, b) != bytes.Equal(pages[i], pages[j]) {
				t.Errorf("%#v and %#v: pages %x and %x", a, b, pages[i], pages[j])
			}
		}
	}
}

func TestNodesWithoutElementsAreTheSame(t *testing.T) {
	for _, n := range []api.Node{leafOf("a", "xy"), innerOf([]int{1, 2}, "k")} {
		full := kept(n)
		if full.Pairs == nil {
			full.Pairs = []api.Pair{}
		}
		if full.Keys == nil {
			full.Keys = []string{}
		}
		if full.Kids == nil {
			full.Kids = []int{}
		}
		checkMay(t, full, true)
		checkEncode(t, full, byHand(n), api.OK)
	}
	checkEncode(t, api.Node{Pairs: []api.Pair{}, Keys: []string{}, Kids: []int{}}, byHand(api.Node{}), api.OK)
}

func TestTurnedBitsAreToldApart(t *testing.T) {
	r := rand.New(rand.NewSource(32))
	for range 2000 {
		b, _ := node.Encode(anyNode(r))
		// Up to 32 beside one another, at least one of them turned over.
		at, turned := r.Intn(512*8-32), r.Uint32()|1
		for i := range 32 {
			if turned>>i&1 == 1 {
				b[(at+i)/8] ^= 128 >> ((at + i) % 8)
			}
		}
		checkDecode(t, b, api.Node{}, api.ErrSum)
	}
}

// R3

func TestAnswersAreNewMemory(t *testing.T) {
	for _, n := range []api.Node{{}, leafOfCount(5, true), innerOfCount(8, 7, true)} {
		want := byHand(n)
		first, _ := node.Encode(n)
		_ = append(first[:511], 1, 2, 3)
		clear(first)
		if second, _ := node.Encode(n); !bytes.Equal(second, want) {
			t.Errorf("the second page of %#v: %x", n, second)
		}

		octets := bytes.Clone(want)
		told, _ := node.Decode(octets)
		again, _ := node.Decode(octets)
		clear(octets)
		if !same(told, n) {
			t.Errorf("what was decoded hangs on the octets: %#v", told)
		}
		clear(told.Pairs)
		clear(told.Keys)
		clear(told.Kids)
		_ = append(told.Pairs, api.Pair{Key: "other"})
		_ = append(told.Keys, "other")
		_ = append(told.Kids, 77)
		if !same(again, n) {
			t.Errorf("two nodes have memory in common: %#v", again)
		}
	}
}

func TestWhatIsHandedInStays(t *testing.T) {
	// Behind the lists' ends, too, where there is room.
	pairs := append(leafOfCount(5, true).Pairs, pairsOf("behind", "1", "behind", "2")...)
	keys := append(innerOfCount(8, 7, true).Keys, "behind", "behind")
	kids := append(innerOfCount(8, 7, true).Kids, 77, 77)
	all := kept(api.Node{Pairs: pairs, Keys: keys, Kids: kids})
	for count := range 9 {
		for _, n := range []api.Node{{Pairs: pairs[:min(count, 7)]}, {Keys: keys[:count]}, {Kids: kids[:count], Keys: keys[:max(count-1, 0)]}, {Pairs: pairs[:1], Kids: kids[:count], Keys: keys[:count]}} {
			node.May(n)
			node.Encode(n)
		}
	}
	if !same(all, api.Node{Pairs: pairs, Keys: keys, Kids: kids}) {
		t.Errorf("%#v, %#v, %v", pairs, keys, kids)
	}
	page := byHand(leafOfCount(3, true))
	octets := append(bytes.Clone(page), bytes.Repeat([]byte{7}, 512)...)
	for _, size := range []int{511, 512, 513} {
		node.Decode(octets[:size])
	}
	if !bytes.Equal(octets, append(page, bytes.Repeat([]byte{7}, 512)...)) {
		t.Errorf("octets behind what was decoded have changed: %x", octets)
	}
}
