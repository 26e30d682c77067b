package model

import (
	"math"
	"slices"
	"strings"
	"testing"

	"ferrule/api"
)

var _ func(int) (*Array, api.Errno) = New
var _ func(*Array, int, int) (string, api.Errno) = (*Array).Read
var _ func(*Array, int, int, string) api.Errno = (*Array).Write
var _ func(*Array, int, int) api.Errno = (*Array).Trim
var _ func(*Array) string = (*Array).Content
var _ func(*Array) *Array = (*Array).Copy
var _ func(*Array, *Array) []int = (*Array).Differs

// noughts are so many sectors of bytes 0.
func noughts(sectors int) string { return strings.Repeat("\x00", 32*sectors) }

// filled tells an array of which no byte is 0, and no two neighbours are the same.
func filled(t *testing.T, capacity int) *both {
	t.Helper()
	b := newBoth(t, capacity)
	data := make([]byte, 32*capacity)
	for i := range data {
		data[i] = byte(1 + i%251)
	}
	if e := b.write(0, capacity, string(data)); e != api.OK {
		t.Fatalf("the plain form: Write: %d", e)
	}
	return b
}

// The examples of chapter 17.
func TestExamples(t *testing.T) {
	a, e := New(2)
	if a == nil || e != api.OK {
		t.Fatalf("P17.1: New(2): %v, %d", a, e)
	}
	if e := a.Write(0, 2, "ab"); e != api.OK {
		t.Errorf("P17.2: Write(0, 2, `ab`): %d", e)
	}
	if s, e := a.Read(0, 1); s != "ab"+strings.Repeat("\x00", 30) || e != api.OK {
		t.Errorf("P17.2: Read(0, 1): %q, %d", s, e)
	}
	if e := a.Write(1, 2, "cd"); e != api.EARG {
		t.Errorf("P17.2: Write(1, 2, ..): %d", e)
	}
	if s, e := a.Read(2, 1); s != "" || e != api.EARG {
		t.Errorf("P17.2: Read(2, 1): %q, %d", s, e)
	}
	if e := a.Trim(0, 0); e != api.EARG {
		t.Errorf("P17.2: Trim(0, 0): %d", e)
	}
	if e := a.Write(-1, 1, "ef"); e != api.EARG {
		t.Errorf("P17.2: Write(-1, 1, ..): %d", e)
	}
	if s := a.Content(); s != "ab"+strings.Repeat("\x00", 62) {
		t.Errorf("P17.3: Content: %q", s)
	}
}

// Capacities: each one that may be, and some that may not.
func TestNew(t *testing.T) {
	for capacity := 1; capacity <= 512; capacity++ {
		a, e := New(capacity)
		if a == nil || e != api.OK {
			t.Fatalf("P17.1: New(%d): %v, %d", capacity, a, e)
		}
		if s := a.Content(); s != noughts(capacity) {
			t.Fatalf("P17.1: New(%d): %d bytes; want %d bytes 0", capacity, len(s), 32*capacity)
		}
		if s, e := a.Read(0, capacity); s != noughts(capacity) || e != api.OK {
			t.Fatalf("P17.1: New(%d): Read of all: %d bytes, %d", capacity, len(s), e)
		}
		if s, e := a.Read(0, capacity+1); s != "" || e != api.EARG {
			t.Fatalf("P17.1: New(%d): Read of one more: %d bytes, %d", capacity, len(s), e)
		}
	}
	for _, capacity := range append([]int{-1, 0, 513, 514, 1024, 1<<32 + 512}, ends...) {
		if a, e := New(capacity); a != nil || e != api.EARG {
			t.Errorf("P17.1: New(%d): %v, %d", capacity, a, e)
		}
	}
}

// Two arrays are apart.
func TestTwoArrays(t *testing.T) {
	a, b := newBoth(t, 3), newBoth(t, 3)
	a.write(0, 3, "first")
	b.look()
	b.write(0, 3, "second")
	a.look()
	b.trim(0, 1)
	a.look()
}

// Each right range of small arrays, and of the greatest one those at its ends: Read
// tells it, Write and Trim change it and nothing else.
func TestRightRanges(t *testing.T) {
	for _, capacity := range []int{1, 2, 3, 7} {
		for lba := range capacity {
			for n := 1; n <= capacity-lba; n++ {
				changeRange(t, capacity, lba, n)
			}
		}
	}
	for _, r := range [][2]int{{0, 1}, {0, 511}, {0, 512}, {1, 510}, {1, 511}, {255, 2}, {510, 1}, {510, 2}, {511, 1}} {
		changeRange(t, 512, r[0], r[1])
	}
}

func changeRange(t *testing.T, capacity, lba, n int) {
	t.Helper()
	b := filled(t, capacity)
	was := b.plain.content()
	ahead, behind := was[:32*lba], was[32*(lba+n):]
	b.wantsRead(lba, n, was[32*lba:32*(lba+n)])
	if e := b.write(lba, n, strings.Repeat("\xff", 32*n)); e != api.OK {
		t.Fatalf("the plain form: Write(%d, %d): %d", lba, n, e)
	}
	b.wantsContent(ahead + strings.Repeat("\xff", 32*n) + behind)
	if e := b.trim(lba, n); e != api.OK {
		t.Fatalf("the plain form: Trim(%d, %d): %d", lba, n, e)
	}
	b.wantsContent(ahead + noughts(n) + behind)
}

// Each two numbers of the edges, with which a range is right or not, its sum within
// an int or not.
func TestRangeEdges(t *testing.T) {
	taken, refused := 0, 0
	for _, capacity := range []int{1, 2, 5} {
		edges := append([]int{-1, 0, 1, 2, 3, 4, 5, 6, 7, 511, 512, 513}, ends...)
		b := filled(t, capacity)
		full := b.plain.content()
		for _, lba := range edges {
			for _, n := range edges {
				if b.write(lba, n, "edge") == api.OK {
					taken++
					b.trim(lba, n)
					b.plain.done = nil
					b.write(0, capacity, full)
					continue
				}
				refused++
				b.refusesRead(lba, n)
				if e := b.trim(lba, n); e != api.EARG {
					t.Fatalf("the plain form: Trim(%d, %d): %d", lba, n, e)
				}
				b.wantsContent(full)
			}
		}
	}
	if taken != 1+3+15 || refused < 3000 {
		t.Errorf("%d were taken, %d refused", taken, refused)
	}
}

// Ranges that are not right, written out; nothing is changed by them.
func TestWrongRanges(t *testing.T) {
	for _, capacity := range []int{1, 4, 512} {
		b := filled(t, capacity)
		was := b.plain.content()
		for _, r := range [][2]int{
			{-1, 1}, {-1, 2}, {-1, capacity}, {-1, capacity + 1}, {-capacity, capacity}, {-capacity, 2 * capacity},
			{0, 0}, {0, -1}, {capacity - 1, 0}, {capacity - 1, -1}, {capacity, 0}, {capacity, -1}, {capacity, -capacity}, {capacity + 1, -1},
			{capacity, 1}, {capacity + 1, 1}, {0, capacity + 1}, {1, capacity}, {capacity - 1, 2}, {0, 1 << 58}, {0, 1<<59 + 1}, {1 << 59, 1}, {1<<58 - 1, 1},
			{math.MaxInt, 1}, {math.MaxInt, math.MaxInt}, {math.MaxInt, math.MinInt}, {1, math.MaxInt}, {0, math.MaxInt}, {capacity - 1, math.MaxInt},
			{math.MinInt, 1}, {math.MinInt, math.MinInt}, {math.MinInt, math.MaxInt}, {math.MinInt + 1, math.MaxInt}, {0, math.MinInt}, {1, math.MinInt}, {-1, math.MinInt},
		} {
			if s, e := b.a.Read(r[0], r[1]); s != "" || e != api.EARG {
				t.Errorf("P17.2: capacity %d: Read(%d, %d): %q, %d", capacity, r[0], r[1], s, e)
			}
			for _, data := range []string{"", "zzz", strings.Repeat("z", 2000)} {
				if e := b.a.Write(r[0], r[1], data); e != api.EARG {
					t.Errorf("P17.2: capacity %d: Write(%d, %d, ..): %d", capacity, r[0], r[1], e)
				}
			}
			if e := b.a.Trim(r[0], r[1]); e != api.EARG {
				t.Errorf("P17.2: capacity %d: Trim(%d, %d): %d", capacity, r[0], r[1], e)
			}
			if b.a.Content() != was {
				t.Fatalf("R3: capacity %d: the range %v: something was changed", capacity, r)
			}
		}
	}
}

// Data of each length, up to some that are far longer than the range: noughts come
// behind it up to the range's end, what it has beyond is passed over.
func TestLengthsOfData(t *testing.T) {
	d := dice(171)
	for n := 1; n <= 3; n++ {
		lengths := []int{1000, 65535, 65536, 65537, 100000}
		for length := range 32*n + 70 {
			lengths = append(lengths, length)
		}
		for _, length := range lengths {
			b := filled(t, 5)
			was := b.plain.content()
			data := strings.Repeat("\xff", length)
			if length%2 == 1 {
				data = d.text(length)
			}
			b.write(1, n, data)
			told := data[:min(length, 32*n)]
			b.wantsContent(was[:32] + told + noughts(n)[len(told):] + was[32*(1+n):])
		}
	}
}

// Data of any bytes: each byte at each place of a sector.
func TestBytesOfData(t *testing.T) {
	for k := range 256 {
		data := make([]byte, 64)
		for i := range data {
			data[i] = byte(k + i)
		}
		b := newBoth(t, 4)
		b.write(1, 2, string(data))
		b.wantsContent(noughts(1) + string(data) + noughts(1))
		b.write(1, 2, strings.Repeat(string([]byte{byte(k)}), 64))
		b.wantsContent(noughts(1) + strings.Repeat(string([]byte{byte(k)}), 64) + noughts(1))
	}
	b := newBoth(t, 1)
	b.write(0, 1, "\x00\xff\x00\xe9 \xc3\xa9 \xf0\x9f\x00\xff\x00")
	b.wantsContent("\x00\xff\x00\xe9 \xc3\xa9 \xf0\x9f\x00\xff\x00" + noughts(1)[13:])
}

// What was read stays as it was told.
func TestWhatWasToldStays(t *testing.T) {
	b := filled(t, 3)
	all, part := b.a.Content(), ""
	part, _ = b.a.Read(1, 1)
	keptAll, keptPart := strings.Clone(all), strings.Clone(part)
	b.write(0, 3, strings.Repeat("\xff", 96))
	b.trim(1, 1)
	if all != keptAll || part != keptPart {
		t.Errorf("R4: behind a change: %q, %q; want %q, %q", all, part, keptAll, keptPart)
	}
}

// A copy is the same, and neither minds the other.
func TestCopy(t *testing.T) {
	for _, capacity := range []int{1, 2, 3, 64, 512} {
		a := filled(t, capacity)
		b := a.copy()
		b.wantsContent(a.plain.content())
		a.wantsDiffers(b)
		a.write(0, 1, "the first")
		b.look()
		a.wantsDiffers(b, 0)
		b.trim(capacity-1, 1)
		a.look()
		b.write(0, 1, "the second")
		a.look()
		a.trim(0, capacity)
		b.look()
		b.refusesRead(0, capacity+1)
		b.refusesRead(capacity, 1)
		if e := b.write(0, capacity+1, "x"); e != api.EARG {
			t.Errorf("the plain form: Write: %d", e)
		}
	}
}

// Copies of a new one, of a copy, and several of one.
func TestCopies(t *testing.T) {
	a := newBoth(t, 3)
	fresh := a.copy()
	fresh.wantsContent(noughts(3))
	a.write(0, 3, "one")
	first := a.copy()
	a.write(1, 1, "two")
	second := a.copy()
	third := second.copy()
	second.trim(0, 3)
	for _, b := range []*both{a, fresh, first, second, third} {
		b.look()
	}
	a.wantsDiffers(third)
	a.wantsDiffers(first, 1)
	a.wantsDiffers(fresh, 0, 1)
	second.wantsDiffers(fresh)
	third.write(2, 1, "three")
	a.wantsDiffers(third, 2)
	for _, b := range []*both{a, fresh, first, second} {
		b.look()
	}
}

// One byte of each place of a sector is changed, in each sector.
func TestDiffersByOneByte(t *testing.T) {
	const capacity = 4
	for sector := range capacity {
		for at := range 32 {
			a := filled(t, capacity)
			b := a.copy()
			bytes := []byte(a.plain.content()[32*sector : 32*sector+32])
			bytes[at] ^= 128
			a.write(sector, 1, string(bytes))
			a.wantsDiffers(b, sector)
			b.write(sector, 1, string(bytes))
			a.wantsDiffers(b)
		}
	}
}

// Several sectors differ: each set of six, and the ends of the greatest array.
func TestDiffersInSeveral(t *testing.T) {
	for set := range 64 {
		a := filled(t, 6)
		b := a.copy()
		var want []int
		for sector := range 6 {
			if set>>sector&1 == 1 {
				a.trim(sector, 1)
				want = append(want, sector)
			}
		}
		a.wantsDiffers(b, want...)
	}
	a := filled(t, 512)
	b := a.copy()
	b.write(511, 1, b.plain.content()[511*32:512*32-1])
	a.wantsDiffers(b, 511)
	b.write(0, 1, "\x00"+b.plain.content()[1:32])
	a.wantsDiffers(b, 0, 511)
	b.trim(0, 512)
	all := make([]int, 512)
	for i := range all {
		all[i] = i
	}
	a.wantsDiffers(b, all...)
}

// The same bytes in other sectors are other bytes.
func TestDiffersByPlace(t *testing.T) {
	a, b := newBoth(t, 3), newBoth(t, 3)
	a.write(0, 1, "x")
	b.write(1, 1, "x")
	a.wantsDiffers(b, 0, 1)
	a.write(1, 1, "x")
	b.write(0, 1, "x")
	a.wantsDiffers(b)
}

// An array and itself.
func TestDiffersFromItself(t *testing.T) {
	newBoth(t, 1).wantsDiffersNot()
	newBoth(t, 512).wantsDiffersNot()
	filled(t, 1).wantsDiffersNot()
	filled(t, 512).wantsDiffersNot()
}

func (b *both) wantsDiffersNot() {
	b.t.Helper()
	b.wantsDiffers(b)
}

// Arrays of different capacities: what one alone has differs, whatever bytes it holds.
func TestDiffersOfCapacities(t *testing.T) {
	for small := 1; small <= 6; small++ {
		for great := small + 1; great <= 8; great++ {
			var rest []int
			for sector := small; sector < great; sector++ {
				rest = append(rest, sector)
			}
			newBoth(t, small).wantsDiffers(newBoth(t, great), rest...)
			filled(t, small).wantsDiffers(filled(t, great), rest...)
			a, b := filled(t, small), filled(t, great)
			b.trim(small, great-small)
			a.wantsDiffers(b, rest...)
			a.trim(small-1, 1)
			a.wantsDiffers(b, append([]int{small - 1}, rest...)...)
			a.trim(0, small)
			all := make([]int, great)
			for i := range all {
				all[i] = i
			}
			a.wantsDiffers(b, all...)
		}
	}
	l := newBoth(t, 1).a.Differs(newBoth(t, 512).a)
	if len(l) != 511 || l[0] != 1 || l[510] != 511 || !slices.IsSorted(l) {
		t.Errorf("P17.3: capacities 1, 512: Differs: %v", l)
	}
}

// What Differs tells is the caller's own, spare room too.
func TestDiffersIsTheCallersOwn(t *testing.T) {
	for n := 1; n <= 20; n++ {
		a, b := filled(t, 20), newBoth(t, 20)
		b.write(n-1, 21-n, a.plain.content()[32*(n-1):])
		first, second := a.a.Differs(b.a), a.a.Differs(b.a)
		kept := slices.Clone(second)
		first = first[:cap(first)]
		for i := range first {
			first[i] = -7
		}
		if len(second) != n-1 || !slices.Equal(second, kept) {
			t.Fatalf("R4: two answers share memory: %v; want %v", second, kept)
		}
		a.wantsDiffers(b, kept...)
		a.trim(0, 20)
		if !slices.Equal(second, kept) {
			t.Fatalf("R4: an answer changed behind a call: %v; want %v", second, kept)
		}
	}
}
