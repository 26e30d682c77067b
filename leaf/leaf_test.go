package leaf

import (
	"bytes"
	"math"
	"slices"
	"testing"

	"ferrule/api"
	"ferrule/tag"
)

// The signatures are fixed by chapter 12.
var (
	_ func(Stream) ([]api.Page, api.Errno) = Cut
	_ func([]api.Page) []Stream            = Join
	_ func(int) int                        = Pages
	_                                      = struct {
		Kind         int
		Epoch, Group uint32
		Bytes        []byte
	}(Stream{})
)

func TestExamples(t *testing.T) {
	s := stream(api.Log, 2, 7, 33)
	l, e := Cut(s)
	if e != api.OK || len(l) != 2 {
		t.Fatalf("Cut: %d pages, %d", len(l), e)
	}
	if p := l[1]; p.Lba != 33 || p.Index != 1 || p.Total != 2 {
		t.Errorf("Cut: the second page: %v", p)
	}
	wantJoin(t, "the second alone", l[1:])
	wantJoin(t, "both turned round", []api.Page{l[1], l[0]}, s)
	for n, want := range map[int]int{0: 1, 32: 1, 33: 2, -1: 0, 65537: 0} {
		if got := Pages(n); got != want {
			t.Errorf("Pages(%d) = %d, want %d", n, got, want)
		}
	}
}

func TestPages(t *testing.T) {
	for n, want := range map[int]int{
		0: 1, 1: 1, 2: 1, 31: 1, 32: 1, 33: 2, 63: 2, 64: 2, 65: 3, 96: 3, 97: 4, 65504: 2047, 65505: 2048, 65535: 2048, 65536: 2048,
		65537: 0, 65538: 0, 65568: 0, 65569: 0, 131072: 0, 1 << 31: 0, 1<<31 - 1: 0, 1 << 32: 0, 1<<32 + 1: 0, 1<<32 + 33: 0,
		math.MaxInt: 0, math.MaxInt - 30: 0, math.MaxInt - 31: 0, math.MaxInt - 32: 0,
		-1: 0, -2: 0, -31: 0, -32: 0, -33: 0, -65536: 0, -1 << 31: 0, -1 << 32: 0, -1<<32 + 1: 0, math.MinInt: 0, math.MinInt + 1: 0, math.MinInt + 31: 0, math.MinInt + 65536: 0,
	} {
		if got := Pages(n); got != want {
			t.Errorf("P12.1: Pages(%d) = %d, want %d", n, got, want)
		}
	}
	for n := range 65537 {
		if got, want := Pages(n), plainPages(n); got != want {
			t.Fatalf("P12.1: Pages(%d) = %d, want %d", n, got, want)
		}
	}
}

// Each field of each page, of each size, kind and of the ends of both numbers.
func TestCut(t *testing.T) {
	for _, n := range sizes {
		for _, kind := range kinds {
			for _, epoch := range []uint32{0, 2, math.MaxUint32} {
				for _, group := range []uint32{0, 7, math.MaxUint32} {
					s := stream(kind, epoch, group, n)
					l := cut(t, s)
					wantFields(t, s, l)
					wantJoin(t, "P12.3: of Cut", l, s)
				}
			}
		}
	}
}

// wantFields holds each page against the stream, field by field.
func wantFields(t *testing.T, s Stream, l []api.Page) {
	t.Helper()
	n := len(s.Bytes)
	if len(l) != plainPages(n) {
		t.Fatalf("P12.1: %d bytes: %d pages", n, len(l))
	}
	for i, p := range l {
		if p.Kind != s.Kind || p.Epoch != s.Epoch || p.Group != s.Group || p.Seq != 0 {
			t.Fatalf("P12.1: %d bytes: page %d: %v", n, i, p)
		}
		if int(p.Lba) != n || int(p.Index) != i || int(p.Total) != len(l) {
			t.Fatalf("P12.1: %d bytes: page %d: %v", n, i, p)
		}
		for j, x := range p.Payload {
			at, want := 32*i+j, byte(0)
			if at < n {
				want = s.Bytes[at]
			}
			if x != want {
				t.Fatalf("P12.1: %d bytes: page %d: byte %d is %d, want %d", n, i, j, x, want)
			}
		}
	}
}

// Pages by hand, beside those that the plain words tell.
func TestKnownPages(t *testing.T) {
	for _, b := range [][]byte{nil, {}, make([]byte, 0, 40)} {
		l, e := Cut(Stream{Kind: api.Snap, Epoch: 5, Bytes: b})
		if e != api.OK || len(l) != 1 || l[0] != (api.Page{Kind: 2, Epoch: 5, Total: 1}) {
			t.Errorf("P12.1: of no bytes: %v, %d", l, e)
		}
	}
	l, e := Cut(Stream{Kind: api.Log, Epoch: 1<<32 - 1, Group: 9, Bytes: []byte{4, 0, 5}})
	if e != api.OK || len(l) != 1 || l[0] != (api.Page{Kind: 3, Lba: 3, Epoch: 1<<32 - 1, Group: 9, Total: 1, Payload: [32]byte{4, 0, 5}}) {
		t.Errorf("P12.1: of three bytes: %v, %d", l, e)
	}
	l, e = Cut(Stream{Kind: api.Log, Epoch: 1, Group: 2, Bytes: append(bytes.Repeat([]byte{255}, 32), 6)})
	want := []api.Page{
		{Kind: 3, Lba: 33, Epoch: 1, Group: 2, Index: 0, Total: 2, Payload: [32]byte(bytes.Repeat([]byte{255}, 32))},
		{Kind: 3, Lba: 33, Epoch: 1, Group: 2, Index: 1, Total: 2, Payload: [32]byte{6}},
	}
	if e != api.OK || !slices.Equal(l, want) {
		t.Errorf("P12.1: of 33 bytes: %v, %d", l, e)
	}
}

// Each number of bytes up to a few pages.
func TestCutOfEachSize(t *testing.T) {
	for n := range 300 {
		s := stream(kinds[n%2], 3, 4, n)
		l := cut(t, s)
		wantFields(t, s, l)
		wantJoin(t, "P12.3: of Cut", l, s)
	}
}

// Bytes that are all 0, or all 255, are bytes as others are.
func TestCutOfNoughts(t *testing.T) {
	for _, n := range smallSizes {
		for _, x := range []byte{0, 255} {
			s := Stream{Kind: api.Snap, Epoch: 1, Group: 1, Bytes: bytes.Repeat([]byte{x}, n)}
			l := cut(t, s)
			wantFields(t, s, l)
			wantJoin(t, "P12.3: bytes alike", l, s)
		}
	}
}

// A wrong kind is named ahead of too many bytes.
func TestCutRefused(t *testing.T) {
	for _, kind := range otherKinds {
		for _, n := range []int{0, 1, 33, 65536, 65537, 70000} {
			wantRefused(t, stream(kind, 1, 1, n), api.EARG)
		}
	}
	for _, kind := range kinds {
		for _, n := range []int{65537, 65538, 65568, 65569, 131072, 1 << 20} {
			wantRefused(t, stream(kind, 0, 0, n), api.ELIMIT)
			wantRefused(t, stream(kind, 1<<32-1, 1<<32-1, n), api.ELIMIT)
		}
		cut(t, stream(kind, 0, 0, 65536))
	}
}

// The bytes alone count, not the room that there is behind them.
func TestCutOfBytesWithRoom(t *testing.T) {
	room := bytes.Repeat([]byte{9}, 70000)
	for _, n := range sizes {
		s := Stream{Kind: api.Log, Epoch: 1, Group: 2, Bytes: room[:n]}
		l := cut(t, s)
		wantFields(t, s, l)
		wantJoin(t, "P12.3: bytes with room", l, s)
	}
	if bytes.Count(room, []byte{9}) != len(room) {
		t.Error("R4: Cut changed the bytes that were handed in, or what stands behind them")
	}
}

func TestJoinOfNothing(t *testing.T) {
	wantJoin(t, "nil", nil)
	if l := Join(nil); len(l) != 0 {
		t.Errorf("P12.2: Join(nil): %v", heads(l))
	}
	if l := Join([]api.Page{}); len(l) != 0 {
		t.Errorf("P12.2: of an empty list: %v", heads(l))
	}
	if l := Join([]api.Page{foreign}[:0]); len(l) != 0 {
		t.Errorf("P12.2: of a list with room alone: %v", heads(l))
	}
	wantJoin(t, "a page of zeros", make([]api.Page, 1))
	for _, kind := range append([]int{api.Data}, otherKinds...) {
		wantJoin(t, "another kind", []api.Page{{Kind: kind, Total: 1}, {Kind: kind, Total: 1, Group: 1}})
		l := cut(t, stream(api.Snap, 1, 1, 65))
		for i := range l {
			l[i].Kind = kind
		}
		wantJoin(t, "a stream's pages, of another kind", l)
	}
}

// inOrders hands a list in as it is, turned round, turned on by one and by
// half, those at even places first, and shuffled.
func inOrders(l []api.Page, do func(name string, l []api.Page)) {
	do("in order", slices.Clone(l))
	back := slices.Clone(l)
	slices.Reverse(back)
	do("turned round", back)
	for _, n := range []int{min(1, len(l)), len(l) / 2, max(0, len(l)-1)} {
		do("turned on", slices.Concat(l[n:], l[:n]))
	}
	var even, odd []api.Page
	for i, p := range l {
		if i%2 == 0 {
			even = append(even, p)
		} else {
			odd = append(odd, p)
		}
	}
	do("even first", slices.Concat(even, odd))
	d := dice(len(l))
	for range 3 {
		shuffled := slices.Clone(l)
		d.shuffle(shuffled)
		do("shuffled", shuffled)
	}
}

func TestJoinInAnyOrder(t *testing.T) {
	for _, n := range sizes {
		for _, kind := range kinds {
			s := stream(kind, 2, 7, n)
			l := cut(t, s)
			inOrders(l, func(name string, l []api.Page) { wantJoin(t, "P12.3: "+name, l, s) })
			inOrders(slices.Concat(l, l), func(name string, l []api.Page) { wantJoin(t, "P12.3: each twice, "+name, l, s) })
		}
	}
}

// Each order that five pages can have.
func TestJoinInEachOrder(t *testing.T) {
	s := stream(api.Log, 1, 2, 130)
	l := cut(t, s)
	var place func(n int)
	orders := 0
	place = func(n int) {
		if n == len(l) {
			orders++
			wantJoin(t, "each order", l, s)
			wantJoin(t, "each order, without the last", l[:n-1])
			return
		}
		for i := n; i < len(l); i++ {
			l[n], l[i] = l[i], l[n]
			place(n + 1)
			l[n], l[i] = l[i], l[n]
		}
	}
	place(0)
	if orders != 120 {
		t.Errorf("%d orders", orders)
	}
}

// A page that is there several times, and the others once.
func TestJoinOfOnePageAgain(t *testing.T) {
	for _, n := range smallSizes {
		s := stream(api.Snap, 4, 0, n)
		l := cut(t, s)
		for i := range l {
			for again := range 4 {
				more := slices.Repeat(l[i:i+1], again)
				wantJoin(t, "again, behind", slices.Concat(l, more), s)
				wantJoin(t, "again, ahead", slices.Concat(more, l), s)
				wantJoin(t, "again, beside it", slices.Concat(l[:i], more, l[i:]), s)
			}
		}
	}
}

// others are pages of other streams, whole and not, and pages of other kinds.
func others() []api.Page {
	var l []api.Page
	for _, kind := range otherKinds {
		l = append(l, api.Page{Kind: kind, Lba: 3, Epoch: 2, Group: 7, Index: 1 << 31, Total: 9}, api.Page{Kind: kind, Epoch: 2, Group: 7, Total: 1})
	}
	l = append(l, plainCut(stream(api.Log, 2, 6, 100))...)
	l = append(l, plainCut(stream(api.Log, 2, 8, 33))[1:]...)
	l = append(l, plainCut(stream(api.Snap, 2, 7, 70))[:2]...)
	l = append(l, plainCut(stream(api.Snap, 1, 7, 0))...)
	l = append(l, plainCut(stream(api.Log, 3, 7, 64))...)
	return append(l, plainCut(stream(api.Log, 1, 7, 64))[0])
}

func TestJoinAmongOthers(t *testing.T) {
	first, second, last := stream(api.Snap, 1, 7, 0), stream(api.Log, 2, 6, 100), stream(api.Log, 3, 7, 64)
	wantJoin(t, "the others alone", others(), first, second, last)
	for _, n := range smallSizes {
		s := stream(api.Log, 2, 7, n)
		l := cut(t, s)
		inOrders(slices.Concat(l, others()), func(name string, l []api.Page) {
			wantJoin(t, "P12.3: among others, "+name, l, first, second, s, last)
		})
		for i := range l {
			inOrders(slices.Concat(slices.Delete(slices.Clone(l), i, i+1), others()), func(name string, l []api.Page) {
				wantJoin(t, "P12.3: one page less, among others, "+name, l, first, second, last)
			})
		}
	}
}

func TestJoinOfOnePageLess(t *testing.T) {
	for _, n := range sizes {
		s := stream(kinds[n%2], 3, 5, n)
		l := cut(t, s)
		for i := range l {
			if len(l) > 100 && i > 2 && i < len(l)-3 && i%97 != 0 {
				continue
			}
			less := slices.Delete(slices.Clone(l), i, i+1)
			wantJoin(t, "P12.3: one page less", less)
			if len(less) == 0 {
				continue
			}
			for _, j := range []int{0, len(less) / 2, len(less) - 1} {
				wantJoin(t, "P12.3: one page less, another one twice", append(slices.Clone(less), less[j]))
			}
			wantJoin(t, "P12.3: one page less, the others twice", slices.Concat(less, less))
		}
	}
}

// The pages of a stream may be parted: together they are whole.
func TestJoinOfParts(t *testing.T) {
	s := stream(api.Snap, 3, 0, 320)
	l := cut(t, s)
	for i := range 1 + len(l) {
		for j := range 1 + i {
			part := l[j:i]
			if len(part) < len(l) {
				wantJoin(t, "a part", part)
			}
			wantJoin(t, "a part and the rest", slices.Concat(part, l[i:], l[:j]), s)
			wantJoin(t, "parts that overlap", slices.Concat(l[j:], l[:i]), s)
		}
	}
}

// Pages of tag's Decode of Encode are the same pages.
func TestJoinOfPagesOnFlash(t *testing.T) {
	s := stream(api.Snap, 1<<32-1, 0, 333)
	var read []api.Page
	for _, p := range cut(t, s) {
		b, e := tag.Encode(p)
		if e != api.OK {
			t.Fatalf("Encode(%v): %d", p, e)
		}
		q, e := tag.Decode(b)
		if e != api.OK {
			t.Fatalf("Decode: %d", e)
		}
		read = append(read, q)
	}
	wantJoin(t, "pages that were written and read", read, s)
}
