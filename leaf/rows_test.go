package leaf

import (
	"bytes"
	"slices"
	"testing"

	"ferrule/api"
)

// spoil writes over a list and its spare room.
func spoil[T any](l []T, x T) {
	l = l[:cap(l)]
	for i := range l {
		l[i] = x
	}
}

func TestCutKeepsNothing(t *testing.T) {
	for _, n := range sizes {
		room := append(stream(api.Log, 3, 4, n).Bytes, 5, 5, 5)
		was := bytes.Clone(room)
		s := Stream{api.Log, 3, 4, room[:n]}
		want := plainCut(s)
		first, _ := Cut(s)
		second, _ := Cut(s)
		if !bytes.Equal(room, was) {
			t.Errorf("R4: Cut changed its bytes, or what stands behind them")
		}
		spoil(first, foreign)
		if !slices.Equal(second, want) {
			t.Errorf("R4: %d bytes: two answers of Cut share memory", n)
		}
		if !bytes.Equal(room, was) {
			t.Errorf("R4: %d bytes: what was handed in changes with the answer", n)
		}
		spoil(room, 9)
		if !slices.Equal(second, want) {
			t.Errorf("R4: %d bytes: the answer changes with what was handed in", n)
		}
		if again, e := Cut(Stream{api.Log, 3, 4, was[:n]}); e != api.OK || !slices.Equal(again, want) {
			t.Errorf("R5: %d bytes: a later answer changes with an earlier one", n)
		}
	}
}

// several are streams of few and of many bytes, in their order.
func several() []Stream {
	return []Stream{
		stream(api.Snap, 1, 0, 0), stream(api.Snap, 1, 1, 100), stream(api.Log, 1, 0, 31), stream(api.Log, 1, 1, 32), stream(api.Log, 1, 2, 33),
		stream(api.Snap, 2, 0, 5000), stream(api.Log, 2, 0, 0), stream(api.Log, 2, 1, 64), stream(api.Log, 3, 9, 65536),
	}
}

// pagesOf are all streams' pages, one behind the other, with room behind them.
func pagesOf(l []Stream) []api.Page {
	pages := make([]api.Page, 0, 5000)
	for _, s := range l {
		pages = append(pages, plainCut(s)...)
	}
	return pages
}

func TestJoinKeepsNothing(t *testing.T) {
	want := several()
	l := pagesOf(want)
	inOrders(l, func(name string, l []api.Page) {
		was := slices.Clone(l)
		first, second := Join(l), Join(l)
		for _, s := range first {
			spoil(s.Bytes, 200)
		}
		spoil(first, Stream{Kind: 77})
		if !alike(second, want) {
			t.Errorf("R4: %s: two answers of Join share memory", name)
		}
		if !slices.Equal(l, was) {
			t.Errorf("R4: %s: what was handed in was changed, or changes with the answer", name)
		}
		spoil(l, foreign)
		if !alike(second, want) {
			t.Errorf("R4: %s: the answer changes with what was handed in", name)
		}
		if again := Join(was); !alike(again, want) {
			t.Errorf("R5: %s: a later answer changes with an earlier one", name)
		}
	})
}

// No two lists of one answer share memory, spare room too.
func TestJoinTellsListsApart(t *testing.T) {
	want := several()
	l := pagesOf(want)
	for one := range want {
		got := Join(l)
		if !alike(got, want) {
			t.Fatalf("P12.2: %v", heads(got))
		}
		_ = append(got[one].Bytes, bytes.Repeat([]byte{201}, 300)...)
		if !alike(got, want) {
			t.Fatalf("R4: an append to the bytes of stream %d changes others", one)
		}
		spoil(got[one].Bytes, 202)
		_ = append(got, Stream{Kind: 77}, Stream{Kind: 78})
		rest := slices.Delete(slices.Clone(got), one, one+1)
		if !alike(rest, slices.Delete(slices.Clone(want), one, one+1)) {
			t.Fatalf("R4: a change of the bytes of stream %d changes others", one)
		}
		for i := range want[one].Bytes {
			if got[one].Bytes[i] != 202 {
				t.Fatalf("R4: the bytes of stream %d are not the caller's own", one)
			}
		}
	}
}

// The same calls have the same answers, whatever was asked in between.
func TestSameAnswersAgain(t *testing.T) {
	want := several()
	l := pagesOf(want)
	for range 3 {
		wantJoin(t, "R5", l, want...)
		wantJoin(t, "R5: less", l[1:], want[1:]...)
		wantRefused(t, stream(api.Data, 1, 1, 5), api.EARG)
		wantRefused(t, stream(api.Log, 1, 1, 65537), api.ELIMIT)
		for _, s := range want {
			cut(t, s)
		}
	}
}

// some is any stream; that it has few bytes is more likely than that it has many.
func (d *dice) some() Stream {
	s := Stream{Kind: kinds[d.roll(2)], Epoch: numbers[d.roll(len(numbers))], Group: numbers[d.roll(len(numbers))]}
	s.Bytes = make([]byte, d.roll(1<<d.roll(13)))
	for i := range s.Bytes {
		s.Bytes[i] = byte(d.roll(256))
	}
	return s
}

// Any streams, their pages shuffled, some of them twice; then with one page less.
func TestManyStreams(t *testing.T) {
	d := dice(11)
	for range 1500 {
		var l []api.Page
		for range d.roll(12) {
			l = append(l, cut(t, d.some())...)
		}
		for range d.roll(4) {
			if len(l) > 0 {
				l = append(l, l[d.roll(len(l))])
			}
		}
		for range d.roll(3) {
			l = append(l, api.Page{Kind: otherKinds[d.roll(len(otherKinds))], Total: 1})
		}
		d.shuffle(l)
		wantPlain(t, "many", l)
		if len(l) > 0 {
			wantPlain(t, "many, one page less", l[1:])
			wantPlain(t, "many, some pages alone", l[:d.roll(len(l))])
		}
	}
}

// Any pages of small numbers, so that now and then some are whole.
func TestManyPages(t *testing.T) {
	d := dice(12)
	whole, none := 0, 0
	for range 300000 {
		l := make([]api.Page, d.roll(7))
		size := uint32(d.roll(3) * 16 * (1 + d.roll(2)))
		for i := range l {
			l[i] = api.Page{
				Kind: 1 + d.roll(4), Lba: size, Seq: uint32(d.roll(3)), Epoch: uint32(d.roll(2)), Group: uint32(d.roll(2)),
				Index: uint32(d.roll(2)), Total: max(1, (size+31)/32),
			}
			switch d.roll(20) {
			case 0:
				l[i].Lba = uint32(d.roll(70))
			case 1:
				l[i].Total = uint32(d.roll(4))
			case 2:
				l[i].Index = uint32(d.roll(4))
			case 3:
				l[i].Payload[d.roll(32)] = byte(d.roll(2))
			}
		}
		if wantPlain(t, "any pages", l) > 0 {
			whole++
		} else {
			none++
		}
	}
	if whole < 50000 || none < 50000 {
		t.Errorf("%d lists had a stream, %d none", whole, none)
	}
}

// One number or byte of a whole stream's pages is another, at any place.
func TestManyChanges(t *testing.T) {
	d := dice(13)
	fields := slices.Concat(headFields, placeFields, []field{indexField, seqField})
	for range 40000 {
		s := d.some()
		s.Bytes = s.Bytes[:min(len(s.Bytes), 150)]
		l := cut(t, s)
		l = append(l, cut(t, stream(s.Kind, s.Epoch, s.Group+1, d.roll(70)))...)
		for range 1 + d.roll(3) {
			p := l[d.roll(len(l))]
			switch v := d.roll(len(fields) + 1); {
			case v == len(fields):
				p.Payload[d.roll(32)] = byte(d.roll(256))
			case d.roll(2) == 0:
				p = fields[v].with(p, *fields[v].of(&p)+uint32(d.roll(3))-1)
			default:
				p = fields[v].with(p, numbers[d.roll(len(numbers))])
			}
			if d.roll(2) == 0 {
				l = append(l, p)
			} else {
				l[d.roll(len(l))] = p
			}
		}
		d.shuffle(l)
		wantPlain(t, "changed", l)
	}
}

// A great many pages: of one stream again and again, and of as many streams.
func TestFarManyPages(t *testing.T) {
	s := stream(api.Log, 1, 1, 65536)
	l := slices.Repeat(cut(t, s), 100)
	wantJoin(t, "one stream again and again", l, s)
	l[len(l)/2].Payload[0]++
	wantJoin(t, "one of them otherwise", l)
	var many []api.Page
	for i := range 100000 {
		many = append(many, api.Page{Kind: api.Snap, Group: uint32(99999 - i), Total: 1})
	}
	got := join(t, "many streams", many)
	if len(got) != 100000 || got[0].Group != 0 || got[99999].Group != 99999 {
		t.Errorf("P12.2: %d streams", len(got))
	}
}
