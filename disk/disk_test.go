package disk_test

import (
	"bytes"
	"fmt"
	"math"
	"math/rand"
	"reflect"
	"slices"
	"testing"

	"bursar/api"
	"bursar/disk"
)

// farPlaces are places and counts that no disk has.
var farPlaces = []int{-1, -2, -api.MaxSectors, api.MaxSectors + 1, 1 << 31, 1 << 62, math.MaxInt - 1, math.MaxInt, math.MinInt, math.MinInt + 1}

// sizes are ordinary numbers of sectors, and those at the edges.
var sizes = []int{1, 2, 3, 17, api.MaxSectors - 1, api.MaxSectors}

// filled is octets of some sectors: all of the first one x, all of the next one x+1, ..
func filled(x byte, n int) []byte {
	b := make([]byte, n*api.Sector)
	for i := range b {
		b[i] = x + byte(i/api.Sector)
	}
	return b
}

// waiting is a write of one sector that is all x.
func waiting(at int, x byte) api.Pending {
	return api.Pending{At: at, B: filled(x, 1)}
}

// sample is a disk whose sectors are all 1, all 2, .., on which nothing waits.
func sample(n int) api.Disk {
	d := api.Disk{Left: -1}
	for i := range n {
		d.S = append(d.S, filled(byte(i+1), 1))
	}
	return d
}

// copyOf is a disk that has nothing in common with d.
func copyOf(d api.Disk) api.Disk {
	c := d
	c.S, c.W = nil, nil
	for _, b := range d.S {
		c.S = append(c.S, bytes.Clone(b))
	}
	for _, w := range d.W {
		c.W = append(c.W, api.Pending{At: w.At, B: bytes.Clone(w.B)})
	}
	return c
}

// same tells whether two disks are, where an empty list and none are the same.
func same(a, b api.Disk) bool {
	wait := func(v, w api.Pending) bool { return v.At == w.At && bytes.Equal(v.B, w.B) }
	return a.Left == b.Left && a.Off == b.Off && slices.EqualFunc(a.S, b.S, bytes.Equal) && slices.EqualFunc(a.W, b.W, wait)
}

// isZero tells whether a disk is the zero one.
func isZero(d api.Disk) bool {
	return same(d, api.Disk{})
}

// made is a disk from a call that must not fail.
func made(t *testing.T, d api.Disk, e api.Errno) api.Disk {
	t.Helper()
	if e != api.OK {
		t.Fatalf("error %d; want none", e)
	}
	return d
}

func newDisk(t *testing.T, n int) api.Disk {
	t.Helper()
	d, e := disk.New(n)
	return made(t, d, e)
}

func write(t *testing.T, d api.Disk, i int, b []byte) api.Disk {
	t.Helper()
	d, e := disk.Write(d, i, b)
	return made(t, d, e)
}

func flush(t *testing.T, d api.Disk) api.Disk {
	t.Helper()
	d, e := disk.Flush(d)
	return made(t, d, e)
}

func budget(t *testing.T, d api.Disk, n int) api.Disk {
	t.Helper()
	d, e := disk.Budget(d, n)
	return made(t, d, e)
}

func checkRead(t *testing.T, d api.Disk, i, n int, want []byte, e api.Errno) {
	t.Helper()
	got, f := disk.Read(d, i, n)
	if f != e || !bytes.Equal(got, want) {
		t.Errorf("Read of %d sectors from %d on, of %d: %.140x, %d; want %.140x, %d", n, i, len(d.S), got, f, want, e)
	}
}

func checkDisk(t *testing.T, name string, got, want api.Disk) {
	t.Helper()
	if !same(got, want) {
		t.Errorf("%s: %s; want %s", name, short(got), short(want))
	}
}

// checkCall tells what a call that answers a disk must have answered.
func checkCall(t *testing.T, name string, got api.Disk, f api.Errno, want api.Disk, e api.Errno) {
	t.Helper()
	if f != e {
		t.Errorf("%s: error %d; want %d", name, f, e)
	}
	checkDisk(t, name, got, want)
}

// short is what a disk is like, by the first octets of its first sectors and writes.
func short(d api.Disk) string {
	var s, w []string
	for _, b := range d.S[:min(len(d.S), 20)] {
		s = append(s, fmt.Sprintf("%.2x/%d", b, len(b)))
	}
	for _, p := range d.W[:min(len(d.W), 20)] {
		w = append(w, fmt.Sprintf("%d:%.2x/%d", p.At, p.B, len(p.B)))
	}
	return fmt.Sprintf("%d sectors %v, %d writes %v, Left %d, Off %v", len(d.S), s, len(d.W), w, d.Left, d.Off)
}

// broken is a disk that may not be, and what it is.
type broken struct {
	name string
	d    api.Disk
}

// brokenDisks are disks that may not be, each for one reason alone.
func brokenDisks() []broken {
	l := []broken{
		{"the zero disk", api.Disk{}},
		{"no sectors", api.Disk{S: [][]byte{}, Left: -1}},
		{"no sectors, but a write that waits", api.Disk{W: []api.Pending{waiting(0, 1)}, Left: -1}},
		{"a sector too many", sample(api.MaxSectors + 1)},
		{"twice as many sectors", sample(2 * api.MaxSectors)},
		{"sectors without octets", api.Disk{S: make([][]byte, 3), Left: -1}},
	}
	for _, left := range []int{-2, -3, -1 << 31, math.MinInt} {
		d := sample(3)
		d.Left = left
		l = append(l, broken{"too little left", d})
	}
	for _, length := range []int{0, 1, api.Sector - 1, api.Sector + 1, 2 * api.Sector} {
		for i := range 3 {
			d := sample(3)
			d.S[i] = make([]byte, length)
			l = append(l, broken{"a sector of another size", d})
			d = sample(3)
			d.W = []api.Pending{waiting(0, 1), waiting(1, 2), waiting(2, 3)}
			d.W[i].B = make([]byte, length)
			l = append(l, broken{"a write of another size", d})
		}
	}
	for _, at := range append([]int{3, 4}, farPlaces...) {
		for i := range 3 {
			d := sample(3)
			d.W = []api.Pending{waiting(0, 1), waiting(1, 2), waiting(2, 3)}
			d.W[i].At = at
			l = append(l, broken{"a write of a sector that there is not", d})
		}
	}
	for i := range l {
		// Whether the power is off plays no part.
		off := l[i]
		off.d.Off = true
		l = append(l, off)
	}
	return l
}

// soundDisks are disks that may be.
func soundDisks() []api.Disk {
	var l []api.Disk
	for _, n := range sizes {
		d := sample(n)
		l = append(l, d)
		d.W = []api.Pending{waiting(0, 90), waiting(n-1, 91), waiting(0, 92), waiting(n/2, 93)}
		l = append(l, d)
		for _, left := range []int{0, 1, 7, math.MaxInt} {
			d.Left = left
			l = append(l, d)
			d.Off = !d.Off
			l = append(l, d)
		}
	}
	return append(l, api.Disk{S: sample(1).S, W: []api.Pending{}}, api.Disk{S: sample(1).S, Off: true, Left: -1})
}

// P4.1

func TestMay(t *testing.T) {
	for i, d := range soundDisks() {
		if !disk.May(d) {
			t.Errorf("sound disk %d may not be: %s", i, short(d))
		}
	}
	for _, c := range brokenDisks() {
		if disk.May(c.d) {
			t.Errorf("%s: may be: %s", c.name, short(c.d))
		}
	}
}

func TestMayOfManyWrites(t *testing.T) {
	// How many wait has no bound.
	d := sample(2)
	for range 3 * api.MaxSectors {
		d.W = append(d.W, waiting(1, 5))
	}
	if !disk.May(d) {
		t.Error("a disk with many writes that wait may not be")
	}
	d.W[len(d.W)-1].At = 2
	if disk.May(d) {
		t.Error("the last write of many is astray, but the disk may be")
	}
}

func TestNew(t *testing.T) {
	for _, n := range sizes {
		d, e := disk.New(n)
		want := api.Disk{Left: -1}
		for range n {
			want.S = append(want.S, make([]byte, api.Sector))
		}
		checkCall(t, "New", d, e, want, api.OK)
		if !disk.May(d) {
			t.Errorf("New(%d) may not be", n)
		}
	}
	for _, n := range append([]int{0}, farPlaces...) {
		d, e := disk.New(n)
		checkCall(t, "New of too few or too many", d, e, api.Disk{}, api.ErrArg)
	}
}

func TestNewIsNewMemory(t *testing.T) {
	a, b := newDisk(t, 3), newDisk(t, 3)
	copy(a.S[1], filled(9, 1))
	_ = append(a.S[1], 9)
	checkDisk(t, "another new disk", b, newDisk(t, 3))
	checkRead(t, a, 0, 1, filled(0, 1), api.OK)
	checkRead(t, a, 2, 1, filled(0, 1), api.OK)
}

func TestDisksThatMayNotBe(t *testing.T) {
	// Whatever else is wrong with a call: ErrArg comes first, and nothing beside it.
	for _, c := range brokenDisks() {
		before := copyOf(c.d)
		for _, i := range append([]int{0, 1, 2, 3}, farPlaces...) {
			checkRead(t, c.d, i, 1, nil, api.ErrArg)
			checkRead(t, c.d, 0, i, nil, api.ErrArg)
			for _, b := range [][]byte{nil, filled(7, 1), filled(7, 2), make([]byte, 63)} {
				d, e := disk.Write(c.d, i, b)
				checkCall(t, c.name+": Write", d, e, api.Disk{}, api.ErrArg)
			}
			d, e := disk.Budget(c.d, i)
			checkCall(t, c.name+": Budget", d, e, api.Disk{}, api.ErrArg)
		}
		d, e := disk.Flush(c.d)
		checkCall(t, c.name+": Flush", d, e, api.Disk{}, api.ErrArg)
		for _, keep := range [][]bool{nil, {}, {true}, {false, true, true}, {true, true, true, true, true}} {
			if d := disk.Crash(c.d, keep); !isZero(d) {
				t.Errorf("%s: Crash: %s", c.name, short(d))
			}
		}
		checkDisk(t, c.name+", behind the calls", c.d, before)
	}
}

// P4.2

func TestRead(t *testing.T) {
	d := sample(5)
	for i := range 6 {
		for n := range 6 - i {
			checkRead(t, d, i, n, filled(byte(i+1), n), api.OK)
		}
	}
}

func TestReadOfSectorsThatThereAreNot(t *testing.T) {
	for _, size := range []int{1, 2, 5} {
		for _, off := range []bool{false, true} {
			d := sample(size)
			d.Off = off
			for i := -3; i < size+4; i++ {
				for n := -3; n < size+4; n++ {
					if i < 0 || n < 0 || i+n > size {
						checkRead(t, d, i, n, nil, api.ErrRange)
					}
				}
				for _, n := range farPlaces {
					checkRead(t, d, i, n, nil, api.ErrRange)
					checkRead(t, d, n, i, nil, api.ErrRange)
				}
			}
			for _, i := range farPlaces {
				for _, n := range farPlaces {
					checkRead(t, d, i, n, nil, api.ErrRange)
				}
			}
		}
	}
}

func TestReadOfTheGreatestDisk(t *testing.T) {
	d := sample(api.MaxSectors)
	checkRead(t, d, 0, api.MaxSectors, filled(1, api.MaxSectors), api.OK)
	checkRead(t, d, api.MaxSectors-1, 1, filled(0, 1), api.OK)
	checkRead(t, d, api.MaxSectors, 0, nil, api.OK)
	checkRead(t, d, api.MaxSectors, 1, nil, api.ErrRange)
	checkRead(t, d, 1, api.MaxSectors, nil, api.ErrRange)
	checkRead(t, d, api.MaxSectors-1, 2, nil, api.ErrRange)
}

func TestReadOfWhatWaits(t *testing.T) {
	d := sample(4)
	d.W = []api.Pending{waiting(1, 11), waiting(3, 12), waiting(1, 13), waiting(0, 14), waiting(3, 15)}
	all := slices.Concat(filled(14, 1), filled(13, 1), filled(3, 1), filled(15, 1))
	for i := range 5 {
		for n := range 5 - i {
			checkRead(t, d, i, n, all[i*api.Sector:(i+n)*api.Sector], api.OK)
		}
	}
}

func TestReadWhenThePowerIsOff(t *testing.T) {
	for _, left := range []int{-1, 0, 3} {
		d := sample(2)
		d.W = []api.Pending{waiting(1, 9)}
		d.Left = left
		// With nothing left the power is not off yet: only a write or a flush turns it off.
		checkRead(t, d, 0, 2, slices.Concat(filled(1, 1), filled(9, 1)), api.OK)
		d.Off = true
		checkRead(t, d, 0, 2, nil, api.ErrPower)
		checkRead(t, d, 1, 1, nil, api.ErrPower)
		checkRead(t, d, 0, 0, nil, api.ErrPower)
		checkRead(t, d, 2, 0, nil, api.ErrPower)
		checkRead(t, d, 0, 3, nil, api.ErrRange)
	}
}

func TestReadSpendsNothing(t *testing.T) {
	d := budget(t, sample(2), 1)
	for range 5 {
		checkRead(t, d, 0, 2, filled(1, 2), api.OK)
	}
	d = write(t, d, 0, filled(8, 1))
	checkRead(t, d, 0, 1, filled(8, 1), api.OK)
}

// P4.3

func TestWriteWaits(t *testing.T) {
	d := write(t, sample(5), 1, filled(50, 3))
	want := sample(5)
	want.W = []api.Pending{waiting(1, 50), waiting(2, 51), waiting(3, 52)}
	checkDisk(t, "Write", d, want)
	d = write(t, d, 3, filled(60, 2))
	want.W = append(want.W, waiting(3, 60), waiting(4, 61))
	checkDisk(t, "Write behind it", d, want)
	checkRead(t, d, 0, 5, slices.Concat(filled(1, 1), filled(50, 2), filled(60, 2)), api.OK)
}

func TestWriteOfOneSectorTwice(t *testing.T) {
	d := write(t, write(t, sample(2), 1, filled(7, 1)), 1, filled(8, 1))
	if len(d.W) != 2 {
		t.Errorf("%d writes wait; want both", len(d.W))
	}
	checkRead(t, d, 1, 1, filled(8, 1), api.OK)
	checkRead(t, flush(t, d), 1, 1, filled(8, 1), api.OK)
	for _, c := range []struct {
		keep []bool
		want byte
	}{{[]bool{true, true}, 8}, {[]bool{true, false}, 7}, {[]bool{false, true}, 8}, {[]bool{false, false}, 2}} {
		checkRead(t, disk.Crash(d, c.keep), 1, 1, filled(c.want, 1), api.OK)
	}
}

func TestWriteOfNoWholeSectors(t *testing.T) {
	d := sample(3)
	off := d
	off.Off = true
	for _, length := range []int{0, 1, 63, 65, 127, 129, 191, 193, 64*api.MaxSectors + 1} {
		for _, i := range append([]int{0, 1, 2, 3}, farPlaces...) {
			got, e := disk.Write(d, i, make([]byte, length))
			checkCall(t, "Write of no whole sectors", got, e, api.Disk{}, api.ErrArg)
			got, e = disk.Write(off, i, make([]byte, length))
			checkCall(t, "Write of no whole sectors, the power off", got, e, api.Disk{}, api.ErrArg)
		}
	}
	got, e := disk.Write(d, 0, nil)
	checkCall(t, "Write of nothing", got, e, api.Disk{}, api.ErrArg)
}

func TestWriteOfSectorsThatThereAreNot(t *testing.T) {
	for _, size := range []int{1, 2, 4} {
		for _, left := range []int{-1, 0, 1, 2} {
			for _, off := range []bool{false, true} {
				d := sample(size)
				d.Left, d.Off = left, off
				for n := 1; n < size+3; n++ {
					for i := -3; i < size+4; i++ {
						if i < 0 || i+n > size {
							got, e := disk.Write(d, i, filled(7, n))
							checkCall(t, "Write astray", got, e, api.Disk{}, api.ErrRange)
						}
					}
					for _, i := range farPlaces {
						got, e := disk.Write(d, i, filled(7, n))
						checkCall(t, "Write far astray", got, e, api.Disk{}, api.ErrRange)
					}
				}
			}
		}
	}
}

func TestWriteOfTheGreatestDisk(t *testing.T) {
	d := write(t, newDisk(t, api.MaxSectors), 0, filled(3, api.MaxSectors))
	if len(d.W) != api.MaxSectors {
		t.Errorf("%d writes wait", len(d.W))
	}
	checkRead(t, d, 0, api.MaxSectors, filled(3, api.MaxSectors), api.OK)
	checkRead(t, flush(t, d), 0, api.MaxSectors, filled(3, api.MaxSectors), api.OK)
	checkRead(t, disk.Crash(d, nil), 0, api.MaxSectors, make([]byte, api.MaxSectors*api.Sector), api.OK)
	got, e := disk.Write(d, 1, filled(3, api.MaxSectors))
	checkCall(t, "Write of all sectors from 1 on", got, e, api.Disk{}, api.ErrRange)
	got, e = disk.Write(d, 0, filled(3, api.MaxSectors+1))
	checkCall(t, "Write of a sector too many", got, e, api.Disk{}, api.ErrRange)
}

func TestWriteSpendsASectorEach(t *testing.T) {
	for n := 1; n <= 4; n++ {
		for left := range 7 {
			d := budget(t, sample(4), left)
			d.W = []api.Pending{waiting(3, 99)}
			want := copyOf(d)
			for k := range min(n, left) {
				want.W = append(want.W, waiting(k, 7+byte(k)))
			}
			want.Left = max(left-n, 0)
			e := api.OK
			if left < n {
				want.Off, e = true, api.ErrPower
			}
			got, f := disk.Write(d, 0, filled(7, n))
			checkCall(t, "Write with a budget", got, f, want, e)
		}
	}
}

func TestFlush(t *testing.T) {
	d := sample(4)
	d.W = []api.Pending{waiting(1, 11), waiting(3, 12), waiting(1, 13), waiting(0, 14)}
	want := sample(4)
	want.S = [][]byte{filled(14, 1), filled(13, 1), filled(3, 1), filled(12, 1)}
	checkDisk(t, "Flush", flush(t, d), want)
	checkDisk(t, "Flush of what is flushed", flush(t, flush(t, d)), want)
	checkDisk(t, "Flush of nothing", flush(t, sample(4)), sample(4))
}

func TestFlushSpendsOne(t *testing.T) {
	for _, writes := range []int{0, 1, 3} {
		for left := -1; left < 3; left++ {
			d := sample(4)
			for i := range writes {
				d.W = append(d.W, waiting(i, 7))
			}
			d.Left = left
			got, e := disk.Flush(d)
			if left == 0 {
				d.Off = true
				checkCall(t, "Flush with nothing left", got, e, d, api.ErrPower)
				continue
			}
			want := sample(4)
			for i := range writes {
				want.S[i] = filled(7, 1)
			}
			want.Left = max(left-1, -1)
			checkCall(t, "Flush with a budget", got, e, want, api.OK)
		}
	}
}

func TestNothingIsDoneWhenThePowerIsOff(t *testing.T) {
	for _, left := range []int{-1, 0, 1, 5, math.MaxInt} {
		d := sample(3)
		d.W = []api.Pending{waiting(1, 9)}
		d.Left, d.Off = left, true
		for n := 1; n <= 3; n++ {
			got, e := disk.Write(d, 0, filled(7, n))
			checkCall(t, "Write, the power off", got, e, d, api.ErrPower)
		}
		got, e := disk.Flush(d)
		checkCall(t, "Flush, the power off", got, e, d, api.ErrPower)
	}
}

func TestThePowerStaysOff(t *testing.T) {
	d := budget(t, sample(3), 1)
	d, e := disk.Write(d, 0, filled(7, 2))
	want := sample(3)
	want.W, want.Left, want.Off = []api.Pending{waiting(0, 7)}, 0, true
	checkCall(t, "Write of two sectors, one left", d, e, want, api.ErrPower)
	for range 3 {
		d, e = disk.Write(d, 1, filled(7, 1))
		checkCall(t, "Write behind it", d, e, want, api.ErrPower)
		d, e = disk.Flush(d)
		checkCall(t, "Flush behind it", d, e, want, api.ErrPower)
		checkRead(t, d, 0, 1, nil, api.ErrPower)
	}
	// More to spend gives no power.
	d = budget(t, d, 5)
	want.Left = 5
	checkDisk(t, "Budget, the power off", d, want)
	d, e = disk.Flush(d)
	checkCall(t, "Flush of that", d, e, want, api.ErrPower)
}

func TestABudgetOfJustAsManyWrites(t *testing.T) {
	d := budget(t, sample(3), 3)
	d = write(t, d, 0, filled(7, 2))
	d = flush(t, d)
	want := sample(3)
	want.S[0], want.S[1], want.Left = filled(7, 1), filled(8, 1), 0
	checkDisk(t, "what was done", d, want)
	checkRead(t, d, 0, 3, slices.Concat(filled(7, 2), filled(3, 1)), api.OK)
	got, e := disk.Write(d, 0, filled(1, 1))
	want.Off = true
	checkCall(t, "one write more", got, e, want, api.ErrPower)
	got, e = disk.Flush(d)
	checkCall(t, "one flush more", got, e, want, api.ErrPower)
}

// P4.4

func TestBudget(t *testing.T) {
	for _, n := range []int{-1, 0, 1, 2, 1000, math.MaxInt} {
		for _, d := range soundDisks() {
			want := copyOf(d)
			want.Left = n
			got, e := disk.Budget(d, n)
			checkCall(t, "Budget", got, e, want, api.OK)
		}
	}
	for _, n := range []int{-2, -3, -1 << 31, math.MinInt} {
		for _, d := range soundDisks() {
			got, e := disk.Budget(d, n)
			checkCall(t, "Budget below -1", got, e, api.Disk{}, api.ErrArg)
		}
	}
}

func TestBudgetWithoutEnd(t *testing.T) {
	d := budget(t, budget(t, sample(2), 0), -1)
	for range 100 {
		d = flush(t, write(t, d, 0, filled(7, 2)))
	}
	if d.Left != -1 || d.Off {
		t.Errorf("Left %d, Off %v", d.Left, d.Off)
	}
	d = budget(t, d, math.MaxInt)
	if d = write(t, d, 0, filled(7, 2)); d.Left != math.MaxInt-2 {
		t.Errorf("Left %d", d.Left)
	}
}

func TestCrashKeepsJustWhatKeepSays(t *testing.T) {
	writes := []api.Pending{waiting(1, 11), waiting(2, 12), waiting(1, 13), waiting(0, 14), waiting(2, 15)}
	for _, left := range []int{-1, 0, 1, 9} {
		for _, off := range []bool{false, true} {
			d := sample(4)
			d.W, d.Left, d.Off = writes, left, off
			for length := range len(writes) + 4 {
				for bits := range 1 << length {
					keep := make([]bool, length)
					want := sample(4)
					for k := range keep {
						keep[k] = bits>>k&1 == 1
						if keep[k] && k < len(writes) {
							want.S[writes[k].At] = writes[k].B
						}
					}
					if got := disk.Crash(d, keep); !same(got, want) {
						t.Fatalf("Crash(%v): %s; want %s", keep, short(got), short(want))
					}
				}
			}
		}
	}
}

func TestCrashOfWhatDoesNotWait(t *testing.T) {
	for _, keep := range [][]bool{nil, {}, {true}, {false}, make([]bool, 10000), slices.Repeat([]bool{true}, 10000)} {
		checkDisk(t, "Crash", disk.Crash(sample(3), keep), sample(3))
	}
	d := sample(3)
	d.Left, d.Off = 0, true
	checkDisk(t, "Crash of a disk whose power is off", disk.Crash(d, nil), sample(3))
	checkDisk(t, "Crash of the zero disk", disk.Crash(api.Disk{}, []bool{true}), api.Disk{})
}

func TestTheExamples(t *testing.T) {
	two := newDisk(t, 2)
	seven := bytes.Repeat([]byte{7}, api.Sector)
	d := write(t, two, 1, seven)
	checkRead(t, disk.Crash(d, []bool{false}), 0, 2, make([]byte, 2*api.Sector), api.OK)
	d = disk.Crash(flush(t, d), nil)
	checkRead(t, d, 1, 1, seven, api.OK)
	checkRead(t, d, 0, 1, make([]byte, api.Sector), api.OK)
	d, e := disk.Write(budget(t, two, 1), 0, append(seven, seven...))
	if e != api.ErrPower || len(d.W) != 1 || d.W[0].At != 0 || !d.Off {
		t.Errorf("Write of two sectors with one left: %d, %s", e, short(d))
	}
}

// P4.5

func TestBehindAFlushACrashLosesNothing(t *testing.T) {
	r := rand.New(rand.NewSource(1))
	for range 300 {
		n := 1 + r.Intn(6)
		d := sample(n)
		for range r.Intn(8) {
			at := r.Intn(n)
			d = write(t, d, at, filled(byte(r.Intn(256)), 1+r.Intn(n-at)))
		}
		want, _ := disk.Read(d, 0, n)
		d = flush(t, d)
		keep := make([]bool, r.Intn(10))
		for k := range keep {
			keep[k] = r.Intn(2) == 0
		}
		checkRead(t, d, 0, n, want, api.OK)
		checkRead(t, disk.Crash(d, keep), 0, n, want, api.OK)
	}
}

func TestEachSectorBehindACrash(t *testing.T) {
	r := rand.New(rand.NewSource(2))
	for range 500 {
		n := 1 + r.Intn(5)
		d := sample(n)
		for range r.Intn(10) {
			d = write(t, d, r.Intn(n), filled(byte(100+r.Intn(100)), 1))
		}
		keep := make([]bool, r.Intn(12))
		for k := range keep {
			keep[k] = r.Intn(2) == 0
		}
		got := disk.Crash(d, keep)
		for i, b := range got.S {
			ok := bytes.Equal(b, d.S[i])
			for _, w := range d.W {
				ok = ok || w.At == i && bytes.Equal(b, w.B)
			}
			if !ok {
				t.Errorf("sector %d behind a crash: %x", i, b)
			}
		}
	}
}

// model is a disk in other words: each sector is all of one octet, which stands for it.
type model struct {
	flushed []byte
	writes  []modelWrite
	left    int
	off     bool
}

type modelWrite struct {
	at int
	x  byte
}

func (m *model) spend() bool {
	switch {
	case m.off:
		return false
	case m.left == 0:
		m.off = true
		return false
	case m.left > 0:
		m.left--
	}
	return true
}

func (m *model) write(at int, x byte, n int) api.Errno {
	for k := range n {
		if !m.spend() {
			return api.ErrPower
		}
		m.writes = append(m.writes, modelWrite{at + k, x + byte(k)})
	}
	return api.OK
}

func (m *model) flush() api.Errno {
	if !m.spend() {
		return api.ErrPower
	}
	for _, w := range m.writes {
		m.flushed[w.at] = w.x
	}
	m.writes = nil
	return api.OK
}

func (m *model) crash(keep []bool) {
	for k, w := range m.writes {
		if k < len(keep) && keep[k] {
			m.flushed[w.at] = w.x
		}
	}
	m.writes, m.left, m.off = nil, -1, false
}

func (m *model) disk() api.Disk {
	d := api.Disk{Left: m.left, Off: m.off}
	for _, x := range m.flushed {
		d.S = append(d.S, filled(x, 1))
	}
	for _, w := range m.writes {
		d.W = append(d.W, waiting(w.at, w.x))
	}
	return d
}

func TestLongRunsAgainstAModel(t *testing.T) {
	r := rand.New(rand.NewSource(3))
	for range 200 {
		n := 1 + r.Intn(7)
		d, m := newDisk(t, n), &model{flushed: make([]byte, n), left: -1}
		for range 60 {
			var e, want api.Errno
			switch r.Intn(8) {
			case 0, 1, 2, 3:
				at, x := r.Intn(n), byte(r.Intn(256))
				k := 1 + r.Intn(n-at)
				want = m.write(at, x, k)
				d, e = disk.Write(d, at, filled(x, k))
			case 4, 5:
				want = m.flush()
				d, e = disk.Flush(d)
			case 6:
				m.left = r.Intn(8) - 1
				d, e = disk.Budget(d, m.left)
			case 7:
				keep := make([]bool, r.Intn(9))
				for k := range keep {
					keep[k] = r.Intn(2) == 0
				}
				m.crash(keep)
				d = disk.Crash(d, keep)
			}
			checkCall(t, "a step", d, e, m.disk(), want)
			if !disk.May(d) {
				t.Fatalf("a step led to a disk that may not be: %s", short(d))
			}
		}
	}
}

// R3: what is handed in stays as it is and is not kept, and what is read is new memory.

func TestDisksThatAreHandedInStay(t *testing.T) {
	for i, d := range soundDisks() {
		before := copyOf(d)
		b, keep := filled(7, 1), []bool{true, false, true}
		disk.May(d)
		disk.Read(d, 0, 1)
		disk.Write(d, 0, b)
		disk.Flush(d)
		disk.Budget(d, 3)
		disk.Crash(d, keep)
		checkDisk(t, "a disk that was handed in", d, before)
		if !bytes.Equal(b, filled(7, 1)) || !slices.Equal(keep, []bool{true, false, true}) {
			t.Errorf("disk %d: octets or a list that were handed in were changed", i)
		}
	}
}

func TestWritesFromOneDiskDoNotMeet(t *testing.T) {
	// A list with room behind its end: what two disks lay there must not meet.
	d := sample(3)
	d.W = make([]api.Pending, 1, 10)
	d.W[0] = waiting(0, 90)
	behind := d.W[:10]
	a := write(t, d, 1, filled(10, 1))
	b := write(t, d, 1, filled(20, 2))
	c := write(t, a, 0, filled(30, 1))
	e := write(t, a, 0, filled(40, 1))
	checkRead(t, a, 0, 3, slices.Concat(filled(90, 1), filled(10, 1), filled(3, 1)), api.OK)
	checkRead(t, b, 0, 3, slices.Concat(filled(90, 1), filled(20, 2)), api.OK)
	checkRead(t, c, 0, 3, slices.Concat(filled(30, 1), filled(10, 1), filled(3, 1)), api.OK)
	checkRead(t, e, 0, 3, slices.Concat(filled(40, 1), filled(10, 1), filled(3, 1)), api.OK)
	if !reflect.DeepEqual(behind[1:], make([]api.Pending, 9)) {
		t.Error("what lay behind the end of a list that was handed in was changed")
	}
}

func TestFlushedDisksDoNotMeet(t *testing.T) {
	d := write(t, sample(3), 1, filled(10, 1))
	flushed := flush(t, d)
	crashed := disk.Crash(d, []bool{false})
	kept := disk.Crash(d, []bool{true})
	later := flush(t, write(t, flushed, 0, filled(50, 3)))
	checkRead(t, d, 0, 3, slices.Concat(filled(1, 1), filled(10, 1), filled(3, 1)), api.OK)
	checkRead(t, flushed, 0, 3, slices.Concat(filled(1, 1), filled(10, 1), filled(3, 1)), api.OK)
	checkRead(t, kept, 0, 3, slices.Concat(filled(1, 1), filled(10, 1), filled(3, 1)), api.OK)
	checkRead(t, crashed, 0, 3, filled(1, 3), api.OK)
	checkRead(t, later, 0, 3, filled(50, 3), api.OK)
}

func TestOctetsThatAreWrittenAreNotKept(t *testing.T) {
	b := filled(7, 2)
	d := write(t, sample(3), 0, b)
	copy(b, filled(99, 2))
	checkRead(t, d, 0, 2, filled(7, 2), api.OK)
	checkRead(t, flush(t, d), 0, 2, filled(7, 2), api.OK)
	keep := []bool{true, false}
	d = disk.Crash(d, keep)
	keep[0], keep[1] = false, true
	checkRead(t, d, 0, 2, slices.Concat(filled(7, 1), filled(2, 1)), api.OK)
}

func TestWhatIsReadIsNewMemory(t *testing.T) {
	d := write(t, sample(3), 2, filled(9, 1))
	before := copyOf(d)
	for i := range 3 {
		for n := 1; n <= 3-i; n++ {
			b, _ := disk.Read(d, i, n)
			for k := range b {
				b[k] = 77
			}
			_ = append(b, 78)
			checkDisk(t, "a disk whose octets were changed behind a Read", d, before)
		}
	}
}
