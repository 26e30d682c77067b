package leaf

import (
	"bytes"
	"math"
	"slices"
	"testing"

	"ferrule/api"
)

// dice hands out numbers that hang on a seed alone.
type dice uint64

func (d *dice) roll(n int) int {
	*d = *d*6364136223846793005 + 1442695040888963407
	return int(uint64(*d)>>33) % n
}

// shuffle brings pages into any order.
func (d *dice) shuffle(l []api.Page) {
	for i := range l {
		j := i + d.roll(len(l)-i)
		l[i], l[j] = l[j], l[i]
	}
}

// stream is one of n bytes, none of them 0, no two pages of them alike.
func stream(kind int, epoch, group uint32, n int) Stream {
	s := Stream{Kind: kind, Epoch: epoch, Group: group, Bytes: make([]byte, n)}
	for i := range s.Bytes {
		s.Bytes[i] = byte(1 + (i+i/32*7+i/8160*3)%255)
	}
	return s
}

// sizes are the numbers of bytes at which the number of pages changes.
var sizes = []int{0, 1, 31, 32, 33, 63, 64, 65, 96, 97, 65504, 65505, 65535, 65536}

// smallSizes are those of few pages.
var smallSizes = []int{0, 1, 31, 32, 33, 64, 65, 130}

// kinds are the two that streams have.
var kinds = []int{api.Snap, api.Log}

// otherKinds are kinds that no stream has, also those of which some bits are
// Snap's or Log's.
var otherKinds = []int{-1, 0, api.Data, 4, 5, -2, -3, 256 + api.Snap, 256 + api.Log, 1<<32 + api.Snap, 1<<32 + api.Log, math.MaxInt, math.MinInt, math.MinInt + api.Snap}

// numbers are what a field of four bytes may say: the ends, and the edges between.
var numbers = []uint32{0, 1, 2, 3, 31, 32, 33, 2047, 2048, 2049, 65535, 65536, 65537, 1 << 27, 1<<31 - 1, 1 << 31, 1<<31 + 1, 1<<32 - 32, 1<<32 - 2, 1<<32 - 1}

// plainPages counts pages one by one, of as many bytes as a stream may have.
func plainPages(n int) int {
	count := 1
	for n > 32 {
		n -= 32
		count++
	}
	return count
}

// plainCut is chapter 12's words of a stream's pages, of a stream that may be cut.
func plainCut(s Stream) []api.Page {
	total := plainPages(len(s.Bytes))
	full := append(bytes.Clone(s.Bytes), make([]byte, 32*total-len(s.Bytes))...)
	var l []api.Page
	for i := range total {
		l = append(l, api.Page{
			Kind: s.Kind, Lba: uint32(len(s.Bytes)), Seq: 0, Epoch: s.Epoch, Group: s.Group, Index: uint32(i), Total: uint32(total),
			Payload: [32]byte(full[32*i : 32*i+32]),
		})
	}
	return l
}

// plainWhole is chapter 12's words of what is whole, one by one, and the bytes that are.
func plainWhole(l []api.Page) ([]byte, bool) {
	lba, total := l[0].Lba, l[0].Total
	if slices.ContainsFunc(l, func(p api.Page) bool { return p.Lba != lba || p.Total != total }) {
		return nil, false
	}
	if lba > 65536 || int64(total) != int64(plainPages(int(lba))) {
		return nil, false
	}
	found := map[uint32][32]byte{}
	for _, p := range l {
		payload, ok := found[p.Index]
		if p.Index >= total || ok && payload != p.Payload {
			return nil, false
		}
		found[p.Index] = p.Payload
	}
	var b []byte
	for i := range total {
		payload, ok := found[i]
		if !ok {
			return nil, false
		}
		b = append(b, payload[:]...)
	}
	return b[:lba], bytes.Count(b[lba:], []byte{0}) == len(b)-int(lba)
}

// plainJoin is P12.2's words.
func plainJoin(l []api.Page) []Stream {
	type three struct {
		kind         int
		epoch, group uint32
	}
	by := map[three][]api.Page{}
	for _, p := range l {
		if p.Kind == 2 || p.Kind == 3 {
			k := three{p.Kind, p.Epoch, p.Group}
			by[k] = append(by[k], p)
		}
	}
	var streams []Stream
	for k, pages := range by {
		if b, ok := plainWhole(pages); ok {
			streams = append(streams, Stream{k.kind, k.epoch, k.group, b})
		}
	}
	slices.SortFunc(streams, func(a, b Stream) int {
		switch {
		case a.Epoch != b.Epoch:
			return sign(a.Epoch < b.Epoch)
		case a.Kind != b.Kind:
			return sign(a.Kind == api.Snap)
		}
		return sign(a.Group < b.Group)
	})
	return streams
}

// sign is what a comparison answers of two that differ.
func sign(ahead bool) int {
	if ahead {
		return -1
	}
	return 1
}

// alike tells whether two lists say the same streams.
func alike(a, b []Stream) bool {
	return slices.EqualFunc(a, b, func(x, y Stream) bool {
		return x.Kind == y.Kind && x.Epoch == y.Epoch && x.Group == y.Group && bytes.Equal(x.Bytes, y.Bytes)
	})
}

// heads tells streams by all but their bytes, so that a report has an end.
func heads(l []Stream) [][4]int {
	var h [][4]int
	for _, s := range l[:min(len(l), 20)] {
		h = append(h, [4]int{s.Kind, int(s.Epoch), int(s.Group), len(s.Bytes)})
	}
	return h
}

// foreign is a page that stands nowhere else: what is handed in is hemmed in
// by it. It would be a whole stream, were it taken for one of the list.
var foreign = api.Page{Kind: api.Log, Epoch: 777777, Group: 888888, Total: 1}

// join calls Join with pages that others stand beside; nothing of them changes.
func join(t *testing.T, name string, l []api.Page) []Stream {
	t.Helper()
	room := slices.Concat([]api.Page{foreign}, l, []api.Page{foreign, foreign})
	was := slices.Clone(room)
	streams := Join(room[1 : 1+len(l)])
	if !slices.Equal(room, was) {
		t.Fatalf("R4: %s: Join changed what was handed in, or what stands beside it", name)
	}
	return streams
}

// wantJoin asks that pages are joined to just these streams.
func wantJoin(t *testing.T, name string, l []api.Page, want ...Stream) {
	t.Helper()
	if got := join(t, name, l); !alike(got, want) {
		t.Fatalf("P12.2: %s: Join: %v, want %v", name, heads(got), heads(want))
	}
}

// wantPlain asks that pages are joined as the plain words do it, and tells to how many streams.
func wantPlain(t *testing.T, name string, l []api.Page) int {
	t.Helper()
	want := plainJoin(l)
	wantJoin(t, name, l, want...)
	return len(want)
}

// cut is a stream's pages, of one that may be cut.
func cut(t *testing.T, s Stream) []api.Page {
	t.Helper()
	l, e := Cut(s)
	if e != api.OK || !slices.Equal(l, plainCut(s)) {
		t.Fatalf("P12.1: Cut(%v): %d pages, %d", heads([]Stream{s}), len(l), e)
	}
	return l
}

// wantRefused asks that a stream is not cut, and that nothing stands beside the error.
func wantRefused(t *testing.T, s Stream, want api.Errno) {
	t.Helper()
	l, e := Cut(s)
	if e != want {
		t.Errorf("P12.1: Cut(%v): %d, want %d", heads([]Stream{s}), e, want)
	}
	if len(l) != 0 {
		t.Errorf("R2: Cut(%v): %d pages beside an error", heads([]Stream{s}), len(l))
	}
}
