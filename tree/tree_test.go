package tree_test

import (
	"fmt"
	"math"
	"math/big"
	"math/rand"
	"slices"
	"strconv"
	"strings"
	"testing"

	"bursar/api"
	"bursar/node"
	"bursar/tree"
)

// most is how many pairs need MaxPages pages: 174 leaves, 22 nodes of these, 3 of these, a root.
const most = 870

// counts are numbers of pairs at all edges; spoiltCounts are those whose pages are spoilt in each place.
var (
	counts       = []int{0, 1, 2, 4, 5, 6, 9, 10, 11, 36, 40, 41, 45, 46, 50, 51, 75, 76, 80, 81, 85, 86, 315, 320, 321, 325, 326, 360, 361, 365, 366, 640, 641, 645, 680, 681, 685, 869, most}
	spoiltCounts = []int{0, 1, 2, 5, 6, 10, 11, 40, 41, 45, 46, 80, 81, 85, 321, most}
)

// key is a text that comes in order by its number; gap is one behind it, and ahead of the next one.
func key(i int) string { return "k" + strconv.Itoa(2000+i) }
func gap(i int) string { return key(i) + "\x00" }

// pairsOf are so many pairs, whose values tell nothing of their order.
func pairsOf(n int) []api.Pair {
	var l []api.Pair
	for i := range n {
		l = append(l, api.Pair{Key: key(i), Val: strings.Repeat("v", i%7) + strconv.Itoa(997*(i+1)%1000)})
	}
	return l
}

// pairsBy are pairs of keys, in order.
func pairsBy(keys ...string) []api.Pair {
	var l []api.Pair
	for i, key := range keys {
		l = append(l, api.Pair{Key: key, Val: strconv.Itoa(i)})
	}
	return l
}

// great are pairs as great as they may be.
func great(n int) []api.Pair {
	var l []api.Pair
	for i := range n {
		l = append(l, api.Pair{Key: strings.Repeat("\xff", 20) + strconv.Itoa(1000+i), Val: strings.Repeat("\xff", 60)})
	}
	return l
}

// anyPairs are some whose keys are of a few octets, so that many begin alike.
func anyPairs(r *rand.Rand, n int) []api.Pair {
	var keys []string
	for range n {
		b := make([]byte, 1+r.Intn(1+r.Intn(24)))
		for i := range b {
			b[i] = "\x00ab\x7f\x80\xff"[r.Intn(6)]
		}
		keys = append(keys, string(b))
	}
	slices.Sort(keys)
	return pairsBy(slices.Compact(keys)...)
}

// kidsOf is how many kids each node has above a level of so many pages, by the chapter's words.
func kidsOf(count int) []int {
	sizes := slices.Repeat([]int{8}, count/8)
	switch alone := count % 8; alone {
	case 0:
	case 1:
		sizes[len(sizes)-1] = 7
		sizes = append(sizes, 2)
	default:
		sizes = append(sizes, alone)
	}
	return sizes
}

// leastBelow is the least key in a page and those below it.
func leastBelow(pages []api.Node, at int) string {
	for len(pages[at].Kids) > 0 {
		at = pages[at].Kids[0]
	}
	return pages[at].Pairs[0].Key
}

// byHand are pairs' pages by the chapter's words, however many.
func byHand(l []api.Pair) []api.Node {
	var pages []api.Node
	for at := 0; at < len(l) || at == 0; at += 5 {
		pages = append(pages, api.Node{Pairs: slices.Clone(l[at:min(at+5, len(l))])})
	}
	at := 0
	for len(pages)-at > 1 {
		for _, size := range kidsOf(len(pages) - at) {
			var n api.Node
			for k := range size {
				if k > 0 {
					n.Keys = append(n.Keys, leastBelow(pages, at))
				}
				n.Kids = append(n.Kids, at)
				at++
			}
			pages = append(pages, n)
		}
	}
	return pages
}

// pairsIn are those in leaves.
func pairsIn(pages []api.Node) []api.Pair {
	var l []api.Pair
	for _, n := range pages {
		l = append(l, n.Pairs...)
	}
	return l
}

// isTree: are pages a tree, by the chapter's words?
func isTree(pages []api.Node) bool {
	if len(pages) == 0 || len(pages) > 200 {
		return false
	}
	for _, n := range pages {
		if !node.May(n) {
			return false
		}
	}
	l := pairsIn(pages)
	for i := 1; i < len(l); i++ {
		if l[i-1].Key >= l[i].Key {
			return false
		}
	}
	return sameAll(pages, byHand(l))
}

// same: are two nodes the same, where a list that is nil and one without elements are?
func same(a, b api.Node) bool {
	return slices.Equal(a.Pairs, b.Pairs) && slices.Equal(a.Keys, b.Keys) && slices.Equal(a.Kids, b.Kids)
}

func sameAll(a, b []api.Node) bool {
	return slices.EqualFunc(a, b, same)
}

// kept are pages in memory of their own.
func kept(pages []api.Node) []api.Node {
	var all []api.Node
	for _, n := range pages {
		all = append(all, api.Node{Pairs: slices.Clone(n.Pairs), Keys: slices.Clone(n.Keys), Kids: slices.Clone(n.Kids)})
	}
	return all
}

// shown is what something is, as far as a line has room for it.
func shown(x any) string {
	text := fmt.Sprintf("%#v", x)
	return text[:min(len(text), 400)]
}

// checkBuild: pairs have these pages, and stay as they were.
func checkBuild(t *testing.T, l []api.Pair, want []api.Node, wantErr api.Errno) {
	t.Helper()
	before := slices.Clone(l)
	pages, e := tree.Build(l)
	if !sameAll(pages, want) || e != wantErr {
		t.Errorf("Build of %d pairs: %d pages, %s, %d; want %d pages, %s, %d", len(l), len(pages), shown(pages), e, len(want), shown(want), wantErr)
	}
	if !slices.Equal(l, before) {
		t.Errorf("Build changed %d pairs: %s", len(l), shown(before))
	}
}

// checkRight: pages are a tree, or are none: then nothing is found in them; and they stay as they were.
func checkRight(t *testing.T, pages []api.Node, want bool) {
	t.Helper()
	before := kept(pages)
	if right := tree.Right(pages); right != want {
		t.Errorf("Right of %d pages: %t: %s", len(pages), right, shown(pages))
	}
	val, looked, findErr := tree.Find(pages, key(0))
	l, rangeErr := tree.Range(pages, "", "")
	if !want && (val != "" || looked != 0 || findErr != api.ErrBad || len(l) > 0 || rangeErr != api.ErrBad) {
		t.Errorf("of %d pages that are no tree: %q, %d, %d and %d pairs, %d: %s", len(pages), val, looked, findErr, len(l), rangeErr, shown(pages))
	}
	if want && (findErr == api.ErrBad || rangeErr != api.OK) {
		t.Errorf("of %d pages that are a tree: %d and %d: %s", len(pages), findErr, rangeErr, shown(pages))
	}
	if !sameAll(pages, before) {
		t.Errorf("%d pages have changed: %s", len(before), shown(before))
	}
}

// checkFind: a key is looked for by so many pages, and has this value.
func checkFind(t *testing.T, pages []api.Node, key, want string, wantLooked int, wantErr api.Errno) {
	t.Helper()
	if val, looked, e := tree.Find(pages, key); val != want || looked != wantLooked || e != wantErr {
		t.Errorf("Find of %q in %d pages: %q, %d, %d; want %q, %d, %d", key, len(pages), val, looked, e, want, wantLooked, wantErr)
	}
}

// checkRange: these pairs are between two keys.
func checkRange(t *testing.T, pages []api.Node, from, to string, want []api.Pair, wantErr api.Errno) {
	t.Helper()
	if l, e := tree.Range(pages, from, to); !slices.Equal(l, want) || e != wantErr {
		t.Errorf("Range from %q to %q in %d pages: %d pairs, %s, %d; want %d, %s, %d", from, to, len(pages), len(l), shown(l), e, len(want), shown(want), wantErr)
	}
}

// checkStay: pages are those of pairs, as they were.
func checkStay(t *testing.T, pages []api.Node, l []api.Pair) {
	t.Helper()
	if !sameAll(pages, byHand(l)) {
		t.Errorf("the pages of %d pairs have changed: %s", len(l), shown(pages))
	}
}

// few: is a place at either end, or one of some between?
func few(i, n int) bool { return i < 13 || i >= n-13 || i%23 < 2 }

// built are the pages of pairs that may be laid.
func built(t *testing.T, l []api.Pair) []api.Node {
	t.Helper()
	pages, e := tree.Build(l)
	if e != api.OK {
		t.Fatalf("Build of %d pairs: %d", len(l), e)
	}
	return pages
}

// P9.1: Build

func TestBuildOfEachNumber(t *testing.T) {
	for n := range most + 1 {
		checkBuild(t, pairsOf(n), byHand(pairsOf(n)), api.OK)
		checkBuild(t, great(n), byHand(great(n)), api.OK)
	}
	checkBuild(t, []api.Pair{}, []api.Node{{}}, api.OK)
}

func TestBuildPageForPage(t *testing.T) {
	leaf := func(from, to int) api.Node { return api.Node{Pairs: pairsOf(to)[from:]} }
	inner := func(first int, keys ...int) api.Node {
		n := api.Node{Kids: []int{first}}
		for i, k := range keys {
			n.Kids = append(n.Kids, first+i+1)
			n.Keys = append(n.Keys, key(k))
		}
		return n
	}
	leaves := func(n int) []api.Node {
		var all []api.Node
		for from := 0; from < n; from += 5 {
			all = append(all, leaf(from, min(from+5, n)))
		}
		return all
	}
	for n, above := range map[int][]api.Node{
		1:  nil,
		5:  nil,
		6:  {inner(0, 5)},
		11: {inner(0, 5, 10)},
		40: {inner(0, 5, 10, 15, 20, 25, 30, 35)},
		41: {inner(0, 5, 10, 15, 20, 25, 30), inner(7, 40), inner(9, 35)},
		45: {inner(0, 5, 10, 15, 20, 25, 30), inner(7, 40), inner(9, 35)},
		46: {inner(0, 5, 10, 15, 20, 25, 30, 35), inner(8, 45), inner(10, 40)},
		51: {inner(0, 5, 10, 15, 20, 25, 30, 35), inner(8, 45, 50), inner(11, 40)},
		80: {inner(0, 5, 10, 15, 20, 25, 30, 35), inner(8, 45, 50, 55, 60, 65, 70, 75), inner(16, 40)},
		81: {inner(0, 5, 10, 15, 20, 25, 30, 35), inner(8, 45, 50, 55, 60, 65, 70), inner(15, 80), inner(17, 40, 75)},
	} {
		checkBuild(t, pairsOf(n), append(leaves(n), above...), api.OK)
	}
}

func TestBuildWhereOnePageWouldBeAlone(t *testing.T) {
	// How many kids the nodes above the leaves have, and those above these.
	for leaves, want := range map[int][][]int{
		1:   nil,
		2:   {{2}},
		7:   {{7}},
		8:   {{8}},
		9:   {{7, 2}, {2}},
		10:  {{8, 2}, {2}},
		15:  {{8, 7}, {2}},
		16:  {{8, 8}, {2}},
		17:  {{8, 7, 2}, {3}},
		18:  {{8, 8, 2}, {3}},
		25:  {{8, 8, 7, 2}, {4}},
		64:  {{8, 8, 8, 8, 8, 8, 8, 8}, {8}},
		65:  {{8, 8, 8, 8, 8, 8, 8, 7, 2}, {7, 2}, {2}},
		72:  {{8, 8, 8, 8, 8, 8, 8, 8, 8}, {7, 2}, {2}},
		73:  {{8, 8, 8, 8, 8, 8, 8, 8, 7, 2}, {8, 2}, {2}},
		128: {slices.Repeat([]int{8}, 16), {8, 8}, {2}},
		129: {append(slices.Repeat([]int{8}, 15), 7, 2), {8, 7, 2}, {3}},
		136: {slices.Repeat([]int{8}, 17), {8, 7, 2}, {3}},
		174: {append(slices.Repeat([]int{8}, 21), 6), {8, 8, 6}, {3}},
	} {
		for _, n := range []int{5*leaves - 4, 5 * leaves} {
			pages := built(t, pairsOf(n))
			below, above := 0, pages[leaves:]
			for _, sizes := range want {
				for _, size := range sizes {
					if n := above[0]; len(n.Kids) != size || n.Kids[0] != below || n.Kids[size-1] != below+size-1 {
						t.Errorf("of %d leaves: a node of kids %v; want %d from %d on", leaves, n.Kids, size, below)
					}
					above, below = above[1:], below+size
				}
			}
			if len(above) != 0 {
				t.Errorf("of %d leaves: %d more pages than %v", leaves, len(above), want)
			}
		}
	}
}

func TestBuildOfTooMany(t *testing.T) {
	if pages := built(t, pairsOf(most)); len(pages) != 200 {
		t.Errorf("%d pages", len(pages))
	}
	for n := most + 1; n < most+60; n++ {
		checkBuild(t, pairsOf(n), nil, api.ErrFull)
	}
	for _, n := range []int{1000, 5000, 8000} {
		checkBuild(t, pairsOf(n), nil, api.ErrFull)
	}
}

// spoilt are pairs of which one may not be laid at that place, or not there.
func spoilt(l []api.Pair, at int) [][]api.Pair {
	var all [][]api.Pair
	spoil := func(at int, p api.Pair) {
		other := slices.Clone(l)
		other[at] = p
		all = append(all, other)
	}
	spoil(at, api.Pair{Val: l[at].Val})
	spoil(at, api.Pair{Key: l[at].Key + strings.Repeat("k", 25-len(l[at].Key)), Val: l[at].Val})
	spoil(at, api.Pair{Key: l[at].Key, Val: strings.Repeat("v", 61)})
	if at > 0 {
		// Twice, with the same value, too; behind one that it comes ahead of; and two that have changed places.
		spoil(at, api.Pair{Key: l[at-1].Key, Val: l[at].Val})
		spoil(at, l[at-1])
		spoil(at-1, l[at])
		spoil(at, api.Pair{Key: l[at-1].Key[:len(l[at-1].Key)-1], Val: l[at].Val})
		other := slices.Clone(l)
		other[at-1], other[at] = other[at], other[at-1]
		all = append(all, other)
	}
	return all
}

func TestBuildOfPairsThatMayNotBeLaid(t *testing.T) {
	// Wherever it is, within a leaf and from one leaf to the next; ahead of their being too many, too.
	for _, n := range []int{1, 2, 5, 6, 10, 11, 41, 46, most, most + 1, 1000} {
		for at := range n {
			if !few(at, n) {
				continue
			}
			for _, l := range spoilt(pairsOf(n), at) {
				checkBuild(t, l, nil, api.ErrArg)
			}
		}
	}
	for _, n := range []int{2, 5, 6, 41, most, most + 1} {
		falling := pairsOf(n)
		slices.Reverse(falling)
		checkBuild(t, falling, nil, api.ErrArg)
		checkBuild(t, make([]api.Pair, n), nil, api.ErrArg)
		checkBuild(t, slices.Repeat([]api.Pair{{Key: "k", Val: "v"}}, n), nil, api.ErrArg)
		checkBuild(t, append(pairsOf(n), api.Pair{Key: key(0)}), nil, api.ErrArg)
	}
}

func TestBuildByKeysInOrder(t *testing.T) {
	// Octet by octet; one that ends where another one goes on comes first.
	keys := []string{"\x00", "\x00\x00", "A", "a", "a\x00", "aa", "ab", "a\xff", "b", "\x7f", "\x80", "\x80a", "\xc3\xa9", "\xff", "\xff\x00", "\xff\xff", strings.Repeat("\xff", 24)}
	checkBuild(t, pairsBy(keys...), byHand(pairsBy(keys...)), api.OK)
	for i, first := range keys {
		for j, second := range keys {
			want, e := byHand(pairsBy(first, second)), api.OK
			if i >= j {
				want, e = nil, api.ErrArg
			}
			checkBuild(t, pairsBy(first, second), want, e)
		}
	}
	for _, size := range []int{1, 23, 24} {
		for _, vals := range []int{0, 1, 59, 60} {
			l := []api.Pair{{Key: strings.Repeat("k", size), Val: strings.Repeat("v", vals)}}
			checkBuild(t, l, []api.Node{{Pairs: l}}, api.OK)
		}
	}
	for _, size := range []int{0, 25, 256, 1 << 16} {
		checkBuild(t, pairsBy(strings.Repeat("k", size)), nil, api.ErrArg)
	}
	for _, size := range []int{61, 256, 1 << 16} {
		checkBuild(t, []api.Pair{{Key: "k", Val: strings.Repeat("v", size)}}, nil, api.ErrArg)
	}
}

// P9.1: Right

func TestRightOfWhatIsByHand(t *testing.T) {
	for n := range most + 1 {
		checkRight(t, byHand(pairsOf(n)), true)
	}
	for _, n := range counts {
		checkRight(t, byHand(great(n)), true)
	}
	checkRight(t, []api.Node{{Pairs: []api.Pair{}, Keys: []string{}, Kids: []int{}}}, true)
	full := byHand(pairsOf(46))
	for i, n := range full {
		// A list without elements is the same as none.
		if len(n.Kids) == 0 {
			full[i].Keys, full[i].Kids = []string{}, []int{}
		} else {
			full[i].Pairs = []api.Pair{}
		}
	}
	checkRight(t, full, true)
}

func TestRightOfNoneAndOfTooMany(t *testing.T) {
	checkRight(t, nil, false)
	checkRight(t, []api.Node{}, false)
	// As a tree would be built, if there might be more pages.
	for n := most + 1; n < most+60; n++ {
		checkRight(t, byHand(pairsOf(n)), false)
	}
	checkRight(t, byHand(pairsOf(5000)), false)
	checkRight(t, make([]api.Node, 2), false)
	checkRight(t, make([]api.Node, 200), false)
	checkRight(t, make([]api.Node, 201), false)
	checkRight(t, append(byHand(pairsOf(most)), api.Node{}), false)
	checkRight(t, append([]api.Node{{}}, byHand(pairsOf(most))...), false)
	// A great many pages, or pairs, that have all memory in common.
	checkRight(t, slices.Repeat([]api.Node{{Pairs: pairsOf(5)}}, 5000), false)
	checkRight(t, slices.Repeat([]api.Node{{Pairs: pairsOf(5000)}}, 200), false)
}

func TestRightOfOtherPages(t *testing.T) {
	for _, n := range spoiltCounts {
		pages := byHand(pairsOf(n))
		for i := range pages {
			if !few(i, len(pages)) {
				continue
			}
			// One is lacking; one is there twice, beside itself and at either end; two have changed places.
			checkRight(t, slices.Delete(kept(pages), i, i+1), false)
			checkRight(t, slices.Insert(kept(pages), i, pages[i]), false)
			checkRight(t, append(kept(pages), pages[i]), false)
			checkRight(t, append([]api.Node{pages[i]}, kept(pages)...), false)
			for _, j := range []int{0, i - 1, i / 2, len(pages) - 1} {
				if j >= 0 && j != i {
					other := kept(pages)
					other[i], other[j] = other[j], other[i]
					checkRight(t, other, false)
				}
			}
			// One is another one, or none.
			other := kept(pages)
			other[i] = pages[(i+1)%len(pages)]
			checkRight(t, other, len(pages) == 1)
			other[i] = api.Node{}
			checkRight(t, other, len(pages) == 1)
		}
	}
}

func TestRightOfOtherKeysBetweenKids(t *testing.T) {
	for _, n := range spoiltCounts {
		pages := byHand(pairsOf(n))
		for i, page := range pages {
			if len(page.Kids) > 0 && few(i, len(pages)) {
				checkKeysBetweenKids(t, pages, i)
			}
		}
	}
}

// checkKeysBetweenKids: what is another key in an inner node, or a kid of it, makes pages no tree.
func checkKeysBetweenKids(t *testing.T, pages []api.Node, i int) {
	t.Helper()
	for j, right := range pages[i].Keys {
		number, _ := strconv.Atoi(right[1:])
		number -= 2000
		// The last one also parts the kids, as no pair lies between it and the right one.
		for _, between := range []string{right + "\x00", key(number - 1), key(number + 1), right[:4], "", strings.Repeat("k", 25), gap(number - 1)} {
			other := kept(pages)
			other[i].Keys[j] = between
			checkRight(t, other, false)
		}
	}
	for j, right := range pages[i].Kids {
		for _, kid := range []int{-1, 200, i, right + 1, right - 1, (right + 8) % 200, right + 256, math.MinInt, math.MaxInt} {
			other := kept(pages)
			other[i].Kids[j] = kid
			checkRight(t, other, false)
		}
	}
	// The last kid at the next node, or none; and the pair of a leaf beside.
	last := len(pages[i].Keys) - 1
	other := kept(pages)
	other[i].Kids, other[i].Keys = other[i].Kids[:last+1], other[i].Keys[:last]
	checkRight(t, other, false)
	other = kept(pages)
	other[i].Pairs = []api.Pair{{Key: "k"}}
	checkRight(t, other, false)
	other = kept(pages)
	other[i] = api.Node{Pairs: []api.Pair{{Key: "l"}}}
	checkRight(t, other, false)
}

func TestRightOfOtherLeaves(t *testing.T) {
	for _, n := range spoiltCounts {
		pages := byHand(pairsOf(n))
		leaves := (n + 4) / 5
		for i := range leaves {
			if !few(i, leaves) {
				continue
			}
			last := i == leaves-1
			pairs := len(pages[i].Pairs)
			// One pair fewer, the first or the last of the leaf: the last leaf alone may have fewer.
			other := kept(pages)
			other[i].Pairs = other[i].Pairs[:pairs-1]
			checkRight(t, other, last && (pairs > 1 || leaves == 1))
			other = kept(pages)
			other[i].Pairs = other[i].Pairs[1:]
			checkRight(t, other, last && leaves == 1)
			// One more: five are the most.
			other = kept(pages)
			other[i].Pairs = append(other[i].Pairs, api.Pair{Key: gap(i*5 + pairs - 1)})
			checkRight(t, other, last && pairs < 5)
			checkPairsOfLeaf(t, pages, i)
		}
	}
}

// checkPairsOfLeaf: a leaf's values may be others, its keys too while they rise: but for the first one, which stands above.
func checkPairsOfLeaf(t *testing.T, pages []api.Node, i int) {
	t.Helper()
	for j, p := range pages[i].Pairs {
		number := i*5 + j
		for k, spoil := range []api.Pair{{Key: gap(number), Val: p.Val}, {Key: p.Key, Val: p.Val + "v"}, {Key: p.Key, Val: ""}, {Key: p.Key, Val: strings.Repeat("v", 61)},
			{Key: "", Val: p.Val}, {Key: key(number - 1), Val: p.Val}, {Key: key(number + 1), Val: p.Val}, {Key: "l" + p.Key, Val: p.Val}} {
			other := kept(pages)
			other[i].Pairs[j] = spoil
			lastPair := number == len(pairsIn(pages))-1
			rises := k == 0 || k == 5 && number == 0 || k > 5 && lastPair
			checkRight(t, other, k == 1 || k == 2 || rises && (j > 0 || i == 0))
		}
	}
}

func TestRightOfPairsMovedToTheNextLeaf(t *testing.T) {
	// The pairs rise, but the leaves are not as full as they would be: with the key that would stand between them, or the one that does.
	for _, n := range []int{6, 7, 9, 11, 39, 41, 44, 46, 49, 79, 319, most - 1} {
		pages := byHand(pairsOf(n))
		last := (n - 1) / 5
		moved := pages[last-1].Pairs[4]
		pages[last-1].Pairs = pages[last-1].Pairs[:4]
		pages[last].Pairs = slices.Insert(pages[last].Pairs, 0, moved)
		checkRight(t, pages, false)
		for i, page := range pages {
			if at := slices.Index(page.Keys, key(last*5)); at >= 0 {
				pages[i].Keys[at] = moved.Key
			}
		}
		checkRight(t, pages, false)
	}
}

func TestRightOfNodesThatPartTheKidsOtherwise(t *testing.T) {
	leaves := byHand(pairsOf(45))[:9]
	inner := func(first int, keys ...int) api.Node {
		n := api.Node{Kids: []int{first}}
		for i, k := range keys {
			n.Kids, n.Keys = append(n.Kids, first+i+1), append(n.Keys, key(k))
		}
		return n
	}
	tops := [][]api.Node{
		{inner(0, 5, 10, 15, 20, 25, 30), inner(7, 40), inner(9, 35)},
		{inner(0, 5, 10, 15, 20, 25), inner(6, 35, 40), inner(9, 30)},
		{inner(0, 5), inner(2, 15, 20, 25, 30, 35, 40), inner(9, 10)},
		{inner(0, 5, 10), inner(3, 20, 25), inner(6, 35, 40), inner(9, 15, 30)},
		{inner(0, 5, 10, 15, 20, 25, 30, 35), inner(8), inner(9, 40)},
		{inner(0, 5, 10, 15, 20, 25, 30, 35), {Kids: []int{9, 8}, Keys: []string{key(40)}}},
		{inner(0, 5, 10, 15, 20, 25, 30, 35, 40)},
		{inner(7, 40), inner(0, 5, 10, 15, 20, 25, 30), {Kids: []int{10, 9}, Keys: []string{key(35)}}},
		{inner(0, 5, 10, 15, 20, 25, 30), inner(7, 40), inner(9, 35), {Kids: []int{11, 0}, Keys: []string{key(1)}}},
		{},
	}
	for i, top := range tops {
		checkRight(t, append(slices.Clone(leaves), top...), i == 0)
	}
	// A root ahead of its kids; and one leaf, below a node.
	checkRight(t, []api.Node{{Kids: []int{1, 2}, Keys: []string{key(5)}}, leaves[0], leaves[1]}, false)
	checkRight(t, []api.Node{leaves[0], {Kids: []int{0}}}, false)
	checkRight(t, []api.Node{leaves[0], {}, {Kids: []int{0, 1}, Keys: []string{key(5)}}}, false)
	checkRight(t, []api.Node{{Kids: []int{0, 1}, Keys: []string{key(5)}}}, false)
}

// damage makes pages others, or leaves them.
func damage(r *rand.Rand, pages []api.Node) []api.Node {
	pages = kept(pages)
	i := r.Intn(len(pages))
	n := &pages[i]
	switch r.Intn(8) {
	case 0:
		return slices.Delete(pages, i, i+1)
	case 1:
		return slices.Insert(pages, i, pages[r.Intn(len(pages))])
	case 2:
		j := r.Intn(len(pages))
		pages[i], pages[j] = pages[j], pages[i]
	case 3:
		if len(n.Keys) > 0 {
			n.Keys[r.Intn(len(n.Keys))] += "\x00"
		}
	case 4:
		if len(n.Kids) > 0 {
			n.Kids[r.Intn(len(n.Kids))] += r.Intn(3) - 1
		}
	case 5:
		if len(n.Pairs) > 0 {
			n.Pairs = n.Pairs[:len(n.Pairs)-1]
		}
	case 6:
		if len(n.Pairs) > 0 {
			n.Pairs[r.Intn(len(n.Pairs))].Key += "\x00"
		}
	case 7:
		if len(n.Pairs) > 0 {
			n.Pairs[r.Intn(len(n.Pairs))].Val += "v"
		}
	}
	return pages
}

func TestRightOfRandomPages(t *testing.T) {
	r := rand.New(rand.NewSource(9))
	trees := 0
	for range 5000 {
		pages := damage(r, byHand(anyPairs(r, r.Intn(1+r.Intn(400)))))
		if len(pages) > 0 && r.Intn(2) == 0 {
			pages = damage(r, pages)
		}
		want := isTree(pages)
		if want {
			trees++
		}
		checkRight(t, pages, want)
	}
	if trees < 500 || trees > 4500 {
		t.Errorf("%d of them are trees: that tests little", trees)
	}
}

// P9.1: Pages and Depth

func TestPagesAndDepth(t *testing.T) {
	for n, want := range map[int][2]int{
		math.MinInt: {1, 1}, math.MinInt + 1: {1, 1}, -1 << 32: {1, 1}, -41: {1, 1}, -6: {1, 1}, -5: {1, 1}, -4: {1, 1}, -1: {1, 1},
		0: {1, 1}, 1: {1, 1}, 4: {1, 1}, 5: {1, 1}, 6: {3, 2}, 10: {3, 2}, 11: {4, 2}, 35: {8, 2}, 36: {9, 2}, 40: {9, 2},
		41: {12, 3}, 45: {12, 3}, 46: {13, 3}, 50: {13, 3}, 75: {18, 3}, 76: {19, 3}, 80: {19, 3}, 81: {21, 3}, 85: {21, 3}, 86: {22, 3},
		320: {73, 3}, 321: {77, 4}, 360: {84, 4}, 361: {86, 4}, 640: {147, 4}, 641: {150, 4}, 680: {157, 4}, 681: {159, 4},
		870: {200, 4}, 871: {201, 4}, 2560: {585, 4}, 2561: {590, 5},
	} {
		if pages, depth := tree.Pages(n), tree.Depth(n); pages != want[0] || depth != want[1] {
			t.Errorf("Pages and Depth of %d: %d, %d; want %v", n, pages, depth, want)
		}
	}
	for n := range most + 1 {
		if pages := byHand(pairsOf(n)); tree.Pages(n) != len(pages) {
			t.Errorf("Pages of %d: %d; want %d", n, tree.Pages(n), len(pages))
		}
	}
}

// exactly is how many pages so many pairs have, and how many are on a way, by numbers without end.
func exactly(n int) (*big.Int, int) {
	up := func(count *big.Int, size int64) *big.Int {
		count = new(big.Int).Add(count, big.NewInt(size-1))
		return count.Div(count, big.NewInt(size))
	}
	count := up(big.NewInt(int64(n)), 5)
	all, depth := new(big.Int).Set(count), 1
	for count.Cmp(big.NewInt(1)) > 0 {
		count = up(count, 8)
		all.Add(all, count)
		depth++
	}
	return all, depth
}

func TestPagesAndDepthOfGreatNumbers(t *testing.T) {
	all := []int{math.MaxInt, math.MaxInt - 1, math.MaxInt - 4, math.MaxInt - 5, math.MaxInt - 8, math.MaxInt / 2, 1<<31 - 1, 1 << 31, 1 << 32, 1<<32 + 1, 1 << 40}
	for n := 5; n < math.MaxInt/8; n *= 8 {
		all = append(all, n-1, n, n+1, n*8-4)
	}
	r := rand.New(rand.NewSource(91))
	for range 2000 {
		all = append(all, 1+r.Intn(math.MaxInt>>r.Intn(60)))
	}
	for _, n := range all {
		pages, depth := exactly(n)
		if !pages.IsInt64() || int64(tree.Pages(n)) != pages.Int64() || tree.Depth(n) != depth {
			t.Errorf("Pages and Depth of %d: %d, %d; want %v, %d", n, tree.Pages(n), tree.Depth(n), pages, depth)
		}
	}
}

// P9.2: Find

// depthOf is how many pages are on a way, as many pairs as fit MaxPages.
func depthOf(n int) int {
	switch {
	case n <= 5:
		return 1
	case n <= 40:
		return 2
	case n <= 320:
		return 3
	}
	return 4
}

func TestFind(t *testing.T) {
	for _, n := range counts {
		l := pairsOf(n)
		pages := byHand(l)
		depth := depthOf(n)
		for i, p := range l {
			// What is there, the first and the last one of each leaf at least; and what would be behind it, at the end of its leaf, too.
			if i%5 > 0 && i%5 < 4 && !few(i, n) {
				continue
			}
			checkFind(t, pages, p.Key, p.Val, depth, api.OK)
			checkFind(t, pages, gap(i), "", depth, api.ErrNone)
			if i > 13 && i < n-3 {
				continue
			}
			for _, none := range []string{p.Key[:4], p.Key[:1] + "\x00", p.Key + p.Key, strings.ToUpper(p.Key), p.Val + "!"} {
				if !slices.ContainsFunc(l, func(p api.Pair) bool { return p.Key == none }) {
					checkFind(t, pages, none, "", depth, api.ErrNone)
				}
			}
		}
		// Ahead of all, behind all, and what is no key.
		for _, none := range []string{"", "\x00", "j", "k", "k0", "k2", key(n), "l", "\xff", strings.Repeat("\xff", 24), strings.Repeat("\xff", 25), strings.Repeat("k", 1<<16)} {
			checkFind(t, pages, none, "", depth, api.ErrNone)
		}
		checkStay(t, pages, l)
	}
}

func TestFindOfRandomKeys(t *testing.T) {
	r := rand.New(rand.NewSource(92))
	for range 40 {
		l := anyPairs(r, r.Intn(1+r.Intn(most)))
		pages := byHand(l)
		depth := depthOf(len(l))
		vals := map[string]string{}
		for _, p := range l {
			vals[p.Key] = p.Val
			checkFind(t, pages, p.Key, p.Val, depth, api.OK)
		}
		for _, p := range anyPairs(r, 50) {
			if val, is := vals[p.Key]; is {
				checkFind(t, pages, p.Key, val, depth, api.OK)
			} else {
				checkFind(t, pages, p.Key, "", depth, api.ErrNone)
			}
		}
		checkStay(t, pages, l)
	}
}

func TestFindOfEmptyValues(t *testing.T) {
	pages := byHand([]api.Pair{{Key: "a"}, {Key: "b", Val: "b"}, {Key: "c"}})
	checkFind(t, pages, "a", "", 1, api.OK)
	checkFind(t, pages, "b", "b", 1, api.OK)
	checkFind(t, pages, "c", "", 1, api.OK)
	checkFind(t, pages, "d", "", 1, api.ErrNone)
}

func TestFindAndRangeInNoTree(t *testing.T) {
	one := byHand(pairsOf(46))
	one[10].Keys[3] = gap(19)
	for _, pages := range [][]api.Node{nil, {}, {{}, {}}, one, one[:10], byHand(pairsOf(most + 1)), {{Kids: []int{0, 0}, Keys: []string{"k"}}}, {{Kids: []int{0, 1}, Keys: []string{"k"}}, {Kids: []int{1, 0}, Keys: []string{"k"}}}} {
		for _, k := range []string{"", key(0), key(20), gap(3), "z"} {
			checkFind(t, pages, k, "", 0, api.ErrBad)
			checkRange(t, pages, k, "", nil, api.ErrBad)
			checkRange(t, pages, "", k, nil, api.ErrBad)
			checkRange(t, pages, k, k, nil, api.ErrBad)
		}
	}
}

// P9.2: Range

// between are the pairs of some from a key on, ahead of another one, if that is not empty.
func between(l []api.Pair, from, to string) []api.Pair {
	var all []api.Pair
	for _, p := range l {
		if p.Key < from {
			continue
		}
		if p.Key < to || to == "" {
			all = append(all, p)
		}
	}
	return all
}

func TestRange(t *testing.T) {
	for _, n := range []int{0, 1, 5, 6, 11, 40, 41, 46} {
		l := pairsOf(n)
		pages := byHand(l)
		ends := []string{"", "\x00", "k", "k2", key(n), "l", strings.Repeat("\xff", 25)}
		for i := range n {
			ends = append(ends, key(i), gap(i))
		}
		for _, from := range ends {
			for _, to := range ends {
				checkRange(t, pages, from, to, between(l, from, to), api.OK)
			}
		}
		checkStay(t, pages, l)
	}
}

func TestRangePlaceForPlace(t *testing.T) {
	l := pairsOf(46)
	pages := byHand(l)
	checkRange(t, pages, key(7), key(12), l[7:12], api.OK)
	checkRange(t, pages, key(7), gap(12), l[7:13], api.OK)
	checkRange(t, pages, gap(7), key(12), l[8:12], api.OK)
	checkRange(t, pages, gap(7), gap(7), nil, api.OK)
	checkRange(t, pages, key(7), key(7), nil, api.OK)
	checkRange(t, pages, key(7), gap(7), l[7:8], api.OK)
	checkRange(t, pages, key(12), key(7), nil, api.OK)
	checkRange(t, pages, key(40), "", l[40:], api.OK)
	checkRange(t, pages, key(45), "", l[45:], api.OK)
	checkRange(t, pages, gap(45), "", nil, api.OK)
	checkRange(t, pages, "", key(0), nil, api.OK)
	checkRange(t, pages, "", key(5), l[:5], api.OK)
	checkRange(t, pages, "", "", l, api.OK)
	checkRange(t, pages, "z", "a", nil, api.OK)
	checkRange(t, pages, "a", "z", l, api.OK)
}

func TestRangeOfRandomKeys(t *testing.T) {
	r := rand.New(rand.NewSource(93))
	for range 40 {
		l := anyPairs(r, r.Intn(1+r.Intn(most)))
		pages := byHand(l)
		ends := append(anyPairs(r, 8), l[:min(len(l), 8)]...)
		for _, from := range ends {
			checkRange(t, pages, from.Key, "", between(l, from.Key, ""), api.OK)
			for _, to := range ends {
				checkRange(t, pages, from.Key, to.Key, between(l, from.Key, to.Key), api.OK)
			}
		}
		checkStay(t, pages, l)
	}
}

// P9.3

func TestWhatWasLaidIsFound(t *testing.T) {
	for n := range most + 1 {
		l := pairsOf(n)
		pages := built(t, l)
		if len(pages) != tree.Pages(n) || !tree.Right(pages) {
			t.Errorf("of %d pairs: %d pages; want %d; right: %t", n, len(pages), tree.Pages(n), tree.Right(pages))
		}
		for i := 0; i < n; i += 1 + n/15 {
			checkFind(t, pages, l[i].Key, l[i].Val, tree.Depth(n), api.OK)
		}
		checkRange(t, pages, "", "", l, api.OK)
	}
}

func TestWhatWasLaidIsFoundBehindItsPages(t *testing.T) {
	r := rand.New(rand.NewSource(94))
	for range 20 {
		l := anyPairs(r, r.Intn(most))
		var pages []api.Node
		for i, n := range built(t, l) {
			b, e := node.Encode(n)
			if e != api.OK {
				t.Fatalf("page %d may not be: %#v", i, n)
			}
			n, e = node.Decode(b)
			if e != api.OK {
				t.Fatalf("page %d: %d", i, e)
			}
			pages = append(pages, n)
		}
		checkRight(t, pages, true)
		checkRange(t, pages, "", "", l, api.OK)
		for _, p := range l {
			checkFind(t, pages, p.Key, p.Val, tree.Depth(len(l)), api.OK)
		}
	}
}

func TestExamples(t *testing.T) {
	checkBuild(t, nil, []api.Node{{}}, api.OK)
	l := pairsBy("a", "b", "c", "d", "e", "f")
	checkBuild(t, l, []api.Node{{Pairs: l[:5]}, {Pairs: l[5:]}, {Keys: []string{"f"}, Kids: []int{0, 1}}}, api.OK)
	if tree.Depth(41) != 3 || tree.Pages(41) != 12 {
		t.Errorf("of 41: %d, %d", tree.Depth(41), tree.Pages(41))
	}
}

// R3

// overwrite makes others of all that a node has, and of what lies behind its lists.
func overwrite(n api.Node) {
	for i := range n.Pairs {
		n.Pairs[i] = api.Pair{Key: "other"}
	}
	for i := range n.Keys {
		n.Keys[i] = "other"
	}
	for i := range n.Kids {
		n.Kids[i] = 77
	}
	_ = append(n.Pairs, api.Pair{Key: "other"}, api.Pair{Key: "other"})
	_ = append(n.Keys, "other", "other")
	_ = append(n.Kids, 77, 77)
}

func TestAnswersAreNewMemory(t *testing.T) {
	for _, n := range counts {
		l, want := pairsOf(n), byHand(pairsOf(n))
		first, second := built(t, l), built(t, l)
		clear(l)
		// No two lists of one answer have memory in common.
		for i := range first {
			overwrite(first[i])
			if !sameAll(first[i+1:], want[i+1:]) {
				t.Fatalf("page %d of %d pairs has memory in common with one behind it", i, n)
			}
		}
		clear(first)
		_ = append(first, api.Node{Kids: []int{77}})
		if !sameAll(second, want) {
			t.Errorf("pages of %d pairs have memory in common with others, or with the pairs", n)
		}
		for i := len(second) - 1; i >= 0; i-- {
			overwrite(second[i])
			if !sameAll(second[:i], want[:i]) {
				t.Fatalf("page %d of %d pairs has memory in common with one ahead of it", i, n)
			}
		}
	}
}

func TestRangesAreNewMemory(t *testing.T) {
	for _, n := range counts {
		pages := byHand(pairsOf(n))
		all, _ := tree.Range(pages, "", "")
		again, _ := tree.Range(pages, "", "")
		for _, page := range pages {
			overwrite(page)
		}
		if !slices.Equal(all, pairsOf(n)) {
			t.Errorf("a range of %d pairs hangs on the pages", n)
		}
		overwrite(api.Node{Pairs: all})
		if !slices.Equal(again, pairsOf(n)) {
			t.Errorf("two ranges of %d pairs have memory in common", n)
		}
	}
}

func TestRangeLeavesThePages(t *testing.T) {
	for _, n := range counts {
		pages := byHand(pairsOf(n))
		for _, ends := range [][2]string{{"", ""}, {key(1), ""}, {"", key(4)}, {key(0), key(5)}, {key(2), key(8)}, {key(5), key(10)}} {
			l, _ := tree.Range(pages, ends[0], ends[1])
			overwrite(api.Node{Pairs: l})
			checkStay(t, pages, pairsOf(n))
		}
	}
}

func TestWhatIsHandedInStays(t *testing.T) {
	// Behind the lists' ends, too, where there is room.
	pairs := append(pairsOf(most), pairsOf(40)...)
	before := slices.Clone(pairs)
	for _, n := range counts {
		tree.Build(pairs[:n])
	}
	if !slices.Equal(pairs, before) {
		t.Error("Build changed what is behind the pairs")
	}
	roomy := func(pages []api.Node) []api.Node {
		for i, n := range pages {
			pages[i].Pairs = append(n.Pairs, pairsOf(3)...)[:len(n.Pairs)]
			pages[i].Keys = append(n.Keys, "x", "y")[:len(n.Keys)]
			pages[i].Kids = append(n.Kids, 77, 78)[:len(n.Kids)]
		}
		return append(pages, byHand(pairsOf(46))...)[:len(pages)]
	}
	whole := func(pages []api.Node) []api.Node {
		all := slices.Clone(pages[:len(pages)+13])
		for i, n := range all[:len(pages)] {
			all[i] = api.Node{Pairs: n.Pairs[:len(n.Pairs)+3], Keys: n.Keys[:len(n.Keys)+2], Kids: n.Kids[:len(n.Kids)+2]}
		}
		return kept(all)
	}
	for _, n := range counts {
		pages := roomy(byHand(pairsOf(n)))
		before := whole(pages)
		tree.Right(pages)
		tree.Find(pages, key(1))
		tree.Find(pages, "z")
		tree.Range(pages, "", "")
		tree.Range(pages, key(1), key(3))
		if !sameAll(whole(pages), before) {
			t.Errorf("what is behind the pages of %d pairs, or behind their lists, has changed", n)
		}
	}
}
