package store_test

import (
	"bytes"
	"encoding/binary"
	"hash/crc32"
	"maps"
	"math/bits"
	"slices"

	"bursar/api"
)

// sum is the sum of octets by the library, whose bits lie the other way round.
func sum(b []byte) []byte {
	turned := make([]byte, len(b))
	for i, octet := range b {
		turned[i] = bits.Reverse8(octet)
	}
	return binary.BigEndian.AppendUint32(nil, bits.Reverse32(crc32.ChecksumIEEE(turned)))
}

// sealed is octets with noughts up to a size, the last four of which are their sum.
func sealed(b []byte, size int) []byte {
	b = append(b, make([]byte, size-4-len(b))...)
	return append(b, sum(b)...)
}

func text(b []byte, s string) []byte {
	return append(append(b, byte(len(s))), s...)
}

// six is a number in six octets.
func six(b []byte, n int) []byte {
	return append(b, binary.BigEndian.AppendUint64(nil, uint64(n))[2:]...)
}

// frameOf is a record laid down, recordOf is that of changes, superOf is a super's sector, by the words of their chapters.
func frameOf(seq int, data []byte) []byte {
	b := six([]byte("burs"), seq)
	b = binary.BigEndian.AppendUint16(b, uint16(len(data)))
	b = append(b, sum(data)...)
	b = append(b, data...)
	b = append(b, sum(b)...)
	return append(b, make([]byte, -len(b)&63)...)
}

func recordOf(l []api.Change) []byte {
	b := []byte{byte(len(l))}
	for _, c := range l {
		if c.Del {
			b = append(b, 1)
		} else {
			b = append(b, 0)
		}
		b = text(text(b, c.Key), c.Val)
	}
	return b
}

func superOf(gen, half, next, pages int) []byte {
	b := append(six([]byte("bsup"), gen), byte(half))
	return sealed(binary.BigEndian.AppendUint16(six(b, next), uint16(pages)), 64)
}

// kidsOf is how many kids each node has above a level of so many pages.
func kidsOf(count int) []int {
	sizes := slices.Repeat([]int{8}, count/8)
	switch alone := count % 8; alone {
	case 0:
	case 1:
		sizes[len(sizes)-1] = 7
		sizes = append(sizes, 2)
	default:
		sizes = append(sizes, alone)
	}
	return sizes
}

// leafOf is the page of a leaf.
func leafOf(l []api.Pair) []byte {
	b := []byte{0, byte(len(l))}
	for _, p := range l {
		b = text(text(b, p.Key), p.Val)
	}
	return sealed(b, 512)
}

// pagesOf are the pages of pairs that rise, octet for octet, by the words of the chapters of nodes and trees.
func pagesOf(l []api.Pair) [][]byte {
	var pages [][]byte
	var least []string // the least key in and below each page
	for at := 0; at < len(l) || at == 0; at += 5 {
		pages = append(pages, leafOf(l[at:min(at+5, len(l))]))
		least = append(least, "")
		if len(l) > 0 {
			least[len(pages)-1] = l[at].Key
		}
	}
	at := 0
	for len(pages)-at > 1 {
		for _, size := range kidsOf(len(pages) - at) {
			b := []byte{byte(size)}
			for k := range size {
				b = binary.BigEndian.AppendUint16(b, uint16(at+k))
			}
			for k := 1; k < size; k++ {
				b = text(b, least[at+k])
			}
			pages = append(pages, sealed(b, 512))
			least = append(least, least[at])
			at += size
		}
	}
	return pages
}

// byKey are the pairs of a map, in order.
func byKey(m map[string]string) []api.Pair {
	var l []api.Pair
	for _, key := range slices.Sorted(maps.Keys(m)) {
		l = append(l, api.Pair{Key: key, Val: m[key]})
	}
	return l
}

// behind is what there is behind changes.
func behind(m map[string]string, l []api.Change) map[string]string {
	m = maps.Clone(m)
	for _, c := range l {
		if c.Del {
			delete(m, c.Key)
		} else {
			m[c.Key] = c.Val
		}
	}
	return m
}

// mayBe: may changes be committed, by the chapter's words?
func mayBe(l []api.Change) bool {
	for _, c := range l {
		if len(c.Key) < 1 || len(c.Key) > 24 || len(c.Val) > 60 || c.Del && len(c.Val) > 0 {
			return false
		}
	}
	return len(l) > 0 && len(l) < 251
}

// copyOf is a disk that has nothing in common with another one.
func copyOf(d api.Disk) api.Disk {
	l := api.Disk{Left: d.Left, Off: d.Off}
	for _, b := range d.S {
		l.S = append(l.S, bytes.Clone(b))
	}
	for _, w := range d.W {
		l.W = append(l.W, api.Pending{At: w.At, B: bytes.Clone(w.B)})
	}
	return l
}

func sameDisk(a, b api.Disk) bool {
	sameWrite := func(v, w api.Pending) bool { return v.At == w.At && bytes.Equal(v.B, w.B) }
	return slices.EqualFunc(a.S, b.S, bytes.Equal) && slices.EqualFunc(a.W, b.W, sameWrite) && a.Left == b.Left && a.Off == b.Off
}

// step is a write of a sector, or a flush.
type step struct {
	flush bool
	at    int
	b     []byte
}

var flush = step{flush: true}

// writes are those of octets, sector by sector.
func writes(at int, b []byte) []step {
	var l []step
	for sector := range slices.Chunk(b, 64) {
		l = append(l, step{at: at, b: sector})
		at++
	}
	return l
}

// done is a disk on which steps are done, as far as there is power.
func done(d api.Disk, steps ...step) (api.Disk, api.Errno) {
	d = copyOf(d)
	for _, x := range steps {
		if d.Off || d.Left == 0 {
			d.Off = true
			return d, api.ErrPower
		}
		if d.Left > 0 {
			d.Left--
		}
		if !x.flush {
			d.W = append(d.W, api.Pending{At: x.at, B: x.b})
			continue
		}
		for _, w := range d.W {
			d.S[w.At] = bytes.Clone(w.B)
		}
		d.W = nil
	}
	return d, api.OK
}

// crashed is a disk behind a crash that keeps some of the writes that wait.
func crashed(d api.Disk, keep []bool) api.Disk {
	d = copyOf(d)
	for k, w := range d.W {
		if k < len(keep) && keep[k] {
			d.S[w.At] = w.B
		}
	}
	return api.Disk{S: d.S, Left: -1}
}

// hand is a store by the chapter's words, octet for octet.
type hand struct {
	plan                api.Plan
	disk                api.Disk
	gen, half, next, at int
	pairs               map[string]string
}

// sizeOf is how many sectors a plan's disk has, logAt and pageAt are where a half's log and a page of it begin.
func sizeOf(p api.Plan) int               { return 2 + 2*(p.Log+8*p.Pages) }
func logAt(p api.Plan, half int) int      { return 2 + half*(p.Log+8*p.Pages) }
func pageAt(p api.Plan, half, i int) int  { return logAt(p, half) + p.Log + 8*i }
func noughts(n int) (l [][]byte)          { return slices.Collect(slices.Chunk(make([]byte, 64*n), 64)) }
func lay(s [][]byte, at int, b []byte)    { copy(s[at:], slices.Collect(slices.Chunk(b, 64))) }
func octets(s [][]byte, at, n int) []byte { return bytes.Join(s[at:at+n], nil) }

// formatted is a new store.
func formatted(p api.Plan) *hand {
	d := api.Disk{S: noughts(sizeOf(p)), Left: -1}
	lay(d.S, 1, superOf(1, 0, 1, 1))
	lay(d.S, pageAt(p, 0, 0), leafOf(nil))
	return &hand{plan: p, disk: d, gen: 1, next: 1, pairs: map[string]string{}}
}

func (h *hand) copy() *hand {
	l := *h
	return &l // its parts are never changed, but replaced
}

func (h *hand) checkpoint() api.Errno {
	if h.disk.Off {
		return api.ErrPower
	}
	pages := pagesOf(byKey(h.pairs))
	if len(pages) > h.plan.Pages {
		return api.ErrFull
	}
	other := 1 - h.half
	var steps []step
	for i, b := range pages {
		steps = append(steps, writes(pageAt(h.plan, other, i), b)...)
	}
	steps = append(append(steps, writes(logAt(h.plan, other), make([]byte, 64))...), flush)
	d, e := done(h.disk, steps...)
	if e == api.OK && (h.gen+1 > api.MaxSeq || h.next > api.MaxSeq) {
		return api.ErrArg
	}
	if e == api.OK {
		d, e = done(d, append(writes((h.gen+1)%2, superOf(h.gen+1, other, h.next, len(pages))), flush)...)
	}
	h.disk = d
	if e == api.OK {
		h.gen, h.half, h.at = h.gen+1, other, 0
	}
	return e
}

func (h *hand) commit(l []api.Change) api.Errno {
	if h.disk.Off {
		return api.ErrPower
	}
	if !mayBe(l) {
		return api.ErrArg
	}
	data := recordOf(l)
	if len(data) > 6000 {
		return api.ErrFull
	}
	size := (20 + len(data) + 63) / 64
	if h.at+size+1 > h.plan.Log {
		if e := h.checkpoint(); e != api.OK {
			return e
		}
		if size+1 > h.plan.Log {
			return api.ErrFull
		}
	}
	pairs := behind(h.pairs, l)
	if len(pagesOf(byKey(pairs))) > h.plan.Pages {
		return api.ErrFull
	}
	if h.next > api.MaxSeq {
		return api.ErrArg
	}
	at, b := logAt(h.plan, h.half)+h.at, frameOf(h.next, data)
	steps := append(writes(at+1, b[64:]), writes(at+size, make([]byte, 64))...)
	d, e := done(h.disk, append(append(append(steps, flush), writes(at, b[:64])...), flush)...)
	h.disk = d
	if e == api.OK {
		h.next, h.at, h.pairs = h.next+1, h.at+size, pairs
	}
	return e
}

// asRead are a disk's sectors, as they are read.
func asRead(d api.Disk) [][]byte {
	s := slices.Clone(d.S)
	for _, w := range d.W {
		s[w.At] = w.B
	}
	return s
}

// number is octets as one, the highest first.
func number(b []byte) int {
	n := 0
	for _, octet := range b {
		n = n<<8 | int(octet)
	}
	return n
}

// counts is the super that counts, of what both places have: its four numbers, the first one 0 if there is none.
func counts(s [][]byte) [4]int {
	var best [4]int
	for place, b := range s[:2] {
		gen, half, next, pages := number(b[4:10]), number(b[10:11]), number(b[11:17]), number(b[17:19])
		if gen > best[0] && gen%2 == place && half < 2 && next > 0 && pages <= 200 && bytes.Equal(b, superOf(gen, half, next, pages)) {
			best = [4]int{gen, half, next, pages}
		}
	}
	return best
}

// pairsOn are the pairs in a page, if it is a leaf's.
func pairsOn(b []byte) []api.Pair {
	var l []api.Pair
	if b[0] > 0 || b[1] > 5 {
		return nil
	}
	at := 2
	for range b[1] {
		var both [2]string
		for i := range both {
			if at >= len(b) || at+1+int(b[at]) > len(b) {
				return nil
			}
			both[i] = string(b[at+1 : at+1+int(b[at])])
			at += 1 + int(b[at])
		}
		l = append(l, api.Pair{Key: both[0], Val: both[1]})
	}
	return l
}

// changesOf are those of a record, if it is one.
func changesOf(b []byte) ([]api.Change, bool) {
	var l []api.Change
	at := 1
	for at < len(b) {
		if at+2 > len(b) || at+2+int(b[at+1]) >= len(b) {
			return nil, false
		}
		c := api.Change{Del: b[at] == 1, Key: string(b[at+2 : at+2+int(b[at+1])])}
		at += 2 + int(b[at+1])
		if at+1+int(b[at]) > len(b) {
			return nil, false
		}
		c.Val = string(b[at+1 : at+1+int(b[at])])
		at += 1 + int(b[at])
		l = append(l, c)
	}
	return l, mayBe(l) && bytes.Equal(recordOf(l), b)
}

// opened is the store that a disk has, by the chapter's words.
func opened(d api.Disk, p api.Plan) (*hand, api.Errno) {
	if d.Off {
		return nil, api.ErrPower
	}
	s := asRead(d)
	super := counts(s)
	if super[0] == 0 {
		return nil, api.ErrNone
	}
	if super[3] > p.Pages || super[3] == 0 {
		return nil, api.ErrBad
	}
	half, pages := super[1], super[3]
	tree := octets(s, pageAt(p, half, 0), 8*pages)
	var l []api.Pair
	for page := range slices.Chunk(tree, 512) {
		l = append(l, pairsOn(page)...)
	}
	h := &hand{plan: p, disk: copyOf(d), gen: super[0], half: half, next: super[2], pairs: map[string]string{}}
	for i, x := range l {
		if !mayBe([]api.Change{{Key: x.Key, Val: x.Val}}) || i > 0 && l[i-1].Key >= x.Key {
			return nil, api.ErrBad
		}
		h.pairs[x.Key] = x.Val
	}
	if !bytes.Equal(bytes.Join(pagesOf(l), nil), tree) {
		return nil, api.ErrBad
	}
	log := octets(s, logAt(p, half), p.Log)
	for {
		b := log[64*h.at:]
		count := number(b[10:12])
		size := (20 + count + 63) / 64
		if h.next > api.MaxSeq || count > 6000 || h.at+size+1 > p.Log || !bytes.Equal(b[:64*size], frameOf(h.next, b[16:16+count])) {
			return h, api.OK
		}
		changes, right := changesOf(b[16 : 16+count])
		if !right {
			return nil, api.ErrBad
		}
		h.pairs = behind(h.pairs, changes)
		h.at += size
		h.next++
	}
}
