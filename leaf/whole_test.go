package leaf

import (
	"math"
	"slices"
	"testing"

	"ferrule/api"
)

// field is a number of a page.
type field struct {
	name string
	of   func(*api.Page) *uint32
}

// headFields are those in which all pages of a stream must be alike.
var headFields = []field{
	{"Lba", func(p *api.Page) *uint32 { return &p.Lba }},
	{"Total", func(p *api.Page) *uint32 { return &p.Total }},
}

var (
	indexField = field{"Index", func(p *api.Page) *uint32 { return &p.Index }}
	seqField   = field{"Seq", func(p *api.Page) *uint32 { return &p.Seq }}
)

// placeFields say which stream a page is of.
var placeFields = []field{
	{"Epoch", func(p *api.Page) *uint32 { return &p.Epoch }},
	{"Group", func(p *api.Page) *uint32 { return &p.Group }},
}

// others are values that a field has not: the neighbours, and the edges.
func (f field) others(p api.Page) []uint32 {
	is := *f.of(&p)
	l := append([]uint32{is + 1, is - 1, is ^ 1<<31, is + 1<<16, ^is}, numbers...)
	return slices.DeleteFunc(l, func(v uint32) bool { return v == is })
}

// with is a page of which a field is another.
func (f field) with(p api.Page, v uint32) api.Page {
	*f.of(&p) = v
	return p
}

// replaced is a list of which one page is another.
func replaced(l []api.Page, i int, p api.Page) []api.Page {
	c := slices.Clone(l)
	c[i] = p
	return c
}

// doubled are lists in which a second copy of a page, a changed one, stands
// ahead of all, beside the page, and behind all.
func doubled(l []api.Page, i int, p api.Page) [][]api.Page {
	one := []api.Page{p}
	return [][]api.Page{slices.Concat(one, l), slices.Concat(l[:i], one, l[i:]), slices.Concat(l[:i+1], one, l[i+1:]), slices.Concat(l, one)}
}

// eachPage does something with each page of streams of few pages, and with some
// of one of many.
func eachPage(t *testing.T, do func(s Stream, l []api.Page, i int)) {
	for _, n := range smallSizes {
		for _, kind := range kinds {
			s := stream(kind, 4, 6, n)
			for i, l := 0, cut(t, s); i < len(l); i++ {
				do(s, l, i)
			}
		}
	}
	s := stream(api.Snap, 4, 0, 65536)
	for l, i := cut(t, s), 0; i < len(l); i += 2047 {
		do(s, l, i)
	}
}

// One page alone that says another length or number of pages; of a stream of
// one page another length may be right, then it is another stream.
func TestJoinOfAnotherHead(t *testing.T) {
	eachPage(t, func(s Stream, l []api.Page, i int) {
		for _, f := range headFields {
			for _, v := range f.others(l[i]) {
				changed := f.with(l[i], v)
				for _, c := range doubled(l, i, changed) {
					wantJoin(t, "a second copy with another "+f.name, c)
				}
				if len(l) > 1 {
					wantJoin(t, "another "+f.name, replaced(l, i, changed))
				} else {
					wantPlain(t, "another "+f.name, []api.Page{changed})
				}
			}
		}
	})
}

func TestJoinOfAnotherIndex(t *testing.T) {
	eachPage(t, func(s Stream, l []api.Page, i int) {
		for _, v := range append(indexField.others(l[i]), l[i].Total, l[i].Total+1, l[i].Total-1) {
			if int64(v) == int64(i) {
				continue
			}
			changed := indexField.with(l[i], v)
			wantJoin(t, "another Index", replaced(l, i, changed))
			for _, c := range doubled(l, i, changed) {
				wantJoin(t, "a second copy with another Index", c)
			}
		}
	})
}

// Payloads of two pages exchanged: whole, but of other bytes.
func TestJoinOfPagesExchanged(t *testing.T) {
	s := stream(api.Log, 4, 6, 96)
	l := cut(t, s)
	l[0].Index, l[2].Index = 2, 0
	other := Stream{s.Kind, s.Epoch, s.Group, slices.Concat(s.Bytes[64:96], s.Bytes[32:64], s.Bytes[:32])}
	wantJoin(t, "exchanged", l, other)
}

// Each byte of a payload: one of the stream's bytes, or one behind them.
func TestJoinOfAnotherByte(t *testing.T) {
	eachPage(t, func(s Stream, l []api.Page, i int) {
		for at := range 32 {
			for _, x := range []byte{1, 128, 255} {
				changed := l[i]
				changed.Payload[at] += x
				for _, c := range doubled(l, i, changed) {
					wantJoin(t, "a second copy with another byte", c)
				}
				if 32*i+at >= len(s.Bytes) {
					wantJoin(t, "a byte behind the stream's", replaced(l, i, changed))
					wantJoin(t, "a byte behind the stream's, twice", append(replaced(l, i, changed), changed))
					continue
				}
				other := Stream{s.Kind, s.Epoch, s.Group, slices.Clone(s.Bytes)}
				other.Bytes[32*i+at] += x
				wantJoin(t, "another byte", replaced(l, i, changed), other)
				wantJoin(t, "another byte, twice", append(replaced(l, i, changed), changed), other)
			}
		}
	})
}

func TestJoinOfAnotherSeq(t *testing.T) {
	eachPage(t, func(s Stream, l []api.Page, i int) {
		for _, v := range seqField.others(l[i]) {
			changed := seqField.with(l[i], v)
			wantJoin(t, "another Seq", replaced(l, i, changed), s)
			for _, c := range doubled(l, i, changed) {
				wantJoin(t, "a second copy with another Seq", c, s)
			}
		}
	})
	s := stream(api.Log, 1, 2, 200)
	l := cut(t, s)
	for i := range l {
		l[i].Seq = uint32(100 - i)
	}
	inOrders(l, func(name string, l []api.Page) { wantJoin(t, "each with a Seq, "+name, l, s) })
}

// A page that is of another stream is gone from its own; of a stream of one
// page it is that other stream.
func TestJoinOfAnotherPlace(t *testing.T) {
	ask := func(name string, s, moved Stream, l []api.Page, i int, changed api.Page) {
		t.Helper()
		if len(l) > 1 {
			wantJoin(t, "another "+name, replaced(l, i, changed))
			for _, c := range doubled(l, i, changed) {
				wantJoin(t, "a second copy with another "+name, c, s)
			}
			return
		}
		wantJoin(t, "another "+name, []api.Page{changed}, moved)
		want := []Stream{s, moved}
		if moved.Epoch < s.Epoch || moved.Epoch == s.Epoch && (moved.Kind < s.Kind || moved.Kind == s.Kind && moved.Group < s.Group) {
			slices.Reverse(want)
		}
		for _, c := range doubled(l, i, changed) {
			wantJoin(t, "a second copy with another "+name, c, want...)
		}
	}
	eachPage(t, func(s Stream, l []api.Page, i int) {
		for _, f := range placeFields {
			for _, v := range f.others(l[i]) {
				changed := f.with(l[i], v)
				ask(f.name, s, Stream{s.Kind, changed.Epoch, changed.Group, s.Bytes}, l, i, changed)
			}
		}
		changed := l[i]
		changed.Kind = api.Snap + api.Log - s.Kind
		ask("Kind", s, Stream{changed.Kind, s.Epoch, s.Group, s.Bytes}, l, i, changed)
	})
}

// Pages whose kind no stream has make no difference, whatever else they say.
func TestJoinOfOtherKinds(t *testing.T) {
	eachPage(t, func(s Stream, l []api.Page, i int) {
		for _, kind := range otherKinds {
			changed := l[i]
			changed.Kind = kind
			wantJoin(t, "another kind", replaced(l, i, changed))
			for _, f := range slices.Concat(headFields, placeFields, []field{indexField, seqField}) {
				for _, v := range []uint32{*f.of(&l[i]), 0, 1, math.MaxUint32} {
					wantJoin(t, "a second copy of another kind", append(slices.Clone(l), f.with(changed, v)), s)
				}
			}
			changed.Payload[31]++
			for _, c := range doubled(l, i, changed) {
				wantJoin(t, "a second copy of another kind", c, s)
			}
		}
	})
}

// made are pages of one stream that all say the same Lba and Total, one of each Index up to n.
func made(n int, lba, total uint32) []api.Page {
	l := make([]api.Page, n)
	for i := range l {
		l[i] = api.Page{Kind: api.Log, Lba: lba, Epoch: 1, Group: 1, Index: uint32(i), Total: total}
	}
	return l
}

// All pages say one length and one number of them: right is just one number.
func TestJoinOfEachLbaAndTotal(t *testing.T) {
	whole := 0
	for _, lba := range append([]uint32{63, 64, 65, 96, 97, 65504, 65505, 65568, 65569, 1 << 16 << 5}, numbers...) {
		right := plainPages(int(min(lba, 70000)))
		for _, total := range append([]uint32{uint32(right), uint32(right) - 1, uint32(right) + 1}, numbers...) {
			for _, n := range []int{1, 2, right - 1, right, right + 1} {
				l := made(n, lba, total)
				if lba <= 65536 && int64(total) == int64(right) && n == right {
					wantJoin(t, "right", l, Stream{api.Log, 1, 1, make([]byte, lba)})
					whole++
				} else {
					wantJoin(t, "not right", l)
				}
			}
		}
	}
	if whole < 17 {
		t.Errorf("only %d were right", whole)
	}
}

// As many pages as a Total says, where the length is one too many.
func TestJoinOfTooManyBytes(t *testing.T) {
	wantJoin(t, "as many bytes as can be", made(2048, 65536, 2048), Stream{api.Log, 1, 1, make([]byte, 65536)})
	for _, lba := range []uint32{65537, 65568, 65569, 1 << 17, 1 << 20, 1<<32 - 1} {
		n := plainPages(int(min(lba, 1<<20)))
		wantJoin(t, "too many bytes", made(n, lba, uint32(n)))
		wantJoin(t, "too many bytes, no page in all", made(n, lba, 0))
		wantJoin(t, "too many bytes, one page, none in all", made(1, lba, 0))
		wantJoin(t, "too many bytes, as many pages as can be", made(2048, lba, 2048))
	}
}

// An Index that no stream has, alone and beside a whole stream.
func TestJoinOfAnIndexBeyond(t *testing.T) {
	for _, lba := range []uint32{0, 1, 32, 33, 96, 65536} {
		n := plainPages(int(lba))
		l := made(n, lba, uint32(n))
		for _, index := range []uint32{uint32(n), uint32(n) + 1, 1 << 11, 1 << 16, 1 << 27, 1 << 31, 1<<32 - 2, 1<<32 - 1} {
			if int64(index) < int64(n) {
				continue
			}
			beyond := indexField.with(l[0], index)
			wantJoin(t, "alone", []api.Page{beyond})
			wantJoin(t, "twice", []api.Page{beyond, beyond})
			wantJoin(t, "behind a whole one", append(slices.Clone(l), beyond))
			wantJoin(t, "ahead of a whole one", append([]api.Page{beyond}, l...))
			wantJoin(t, "in the last one's place", replaced(l, n-1, beyond))
		}
	}
}

// Each length of one page and of two, with a byte at each place.
func TestJoinOfEachByteBehind(t *testing.T) {
	for lba := range 65 {
		n := plainPages(lba)
		for at := range 32 * n {
			l := made(n, uint32(lba), uint32(n))
			l[at/32].Payload[at%32] = 1
			if at >= lba {
				wantJoin(t, "a byte behind", l)
				continue
			}
			s := Stream{api.Log, 1, 1, make([]byte, lba)}
			s.Bytes[at] = 1
			wantJoin(t, "a byte within", l, s)
		}
	}
}

// grid are streams of several epochs, both kinds, several groups, in their order.
func grid(size func(i int) int) []Stream {
	var l []Stream
	at := []uint32{0, 1, 1<<31 - 1, 1 << 31, 1<<32 - 1}
	for _, epoch := range at {
		for _, kind := range kinds {
			for _, group := range at {
				l = append(l, stream(kind, epoch, group, size(len(l))))
			}
		}
	}
	return l
}

func TestJoinTellsInOrder(t *testing.T) {
	want := grid(func(i int) int { return i * 3 })
	var l []api.Page
	for _, s := range want {
		l = append(l, cut(t, s)...)
	}
	inOrders(l, func(name string, l []api.Page) { wantJoin(t, name, l, want...) })
	for i, a := range want {
		for _, b := range want[i+1:] {
			p, q := cut(t, a), cut(t, b)
			wantJoin(t, "two", slices.Concat(p, q), a, b)
			wantJoin(t, "two, turned round", slices.Concat(q, p), a, b)
		}
	}
}

// One stream is whole, the others are not; and the other way round.
func TestJoinTellsTheWholeOnes(t *testing.T) {
	all := grid(func(i int) int { return 20 * (i % 7) })
	for one := range all {
		var l, m []api.Page
		for i, s := range all {
			p := cut(t, s)
			torn := slices.Clone(p)
			torn[len(p)-1].Payload[31], torn[0].Lba = 1, torn[0].Lba^64
			if i == one {
				l, m = append(l, p...), append(m, torn...)
			} else {
				l, m = append(l, torn...), append(m, p...)
			}
		}
		inOrders(l, func(name string, l []api.Page) { wantJoin(t, "one whole, "+name, l, all[one]) })
		rest := slices.Delete(slices.Clone(all), one, one+1)
		inOrders(m, func(name string, l []api.Page) { wantJoin(t, "one not whole, "+name, l, rest...) })
	}
}

// A whole one between two that lack a page, each lack at each place.
func TestJoinTellsTheOneBetween(t *testing.T) {
	for _, kind := range kinds {
		a, b, c := stream(kind, 2, 3, 70), stream(kind, 2, 4, 70), stream(kind, 2, 5, 70)
		for i := range 3 {
			for j := range 3 {
				l := slices.Concat(slices.Delete(cut(t, a), i, i+1), cut(t, b), slices.Delete(cut(t, c), j, j+1))
				inOrders(l, func(name string, l []api.Page) { wantJoin(t, name, l, b) })
			}
		}
	}
}
