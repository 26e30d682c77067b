package image_test

import (
	"cmp"
	"slices"
	"testing"

	"ferrule/api"
	"ferrule/delta"
	"ferrule/image"
	"ferrule/leaf"
	"ferrule/tag"
)

// config is that of chapter 18's examples.
var config = api.Config{Blocks: 40, Pages: 8, Capacity: 48, Spare: 2, MaxRuns: 48, Window: 8}

// pagesOf is how many pages its flash has.
const pagesOf = 320

// canvas is an image that is put together page by page.
type canvas struct {
	img []byte
	at  int // where the next stream's pages go
}

// newCanvas makes an image of bytes 255, and 0 for the blocks.
func newCanvas() *canvas {
	c := &canvas{img: slices.Repeat([]byte{255}, pagesOf*68), at: 100}
	c.img = append(c.img, make([]byte, 80)...)
	return c
}

// put lays a page at a place.
func (c *canvas) put(at int, p api.Page) {
	b, e := tag.Encode(p)
	if e != api.OK {
		panic(e)
	}
	copy(c.img[at*68:], b)
}

// data lays a sector's page.
func (c *canvas) data(at, lba int, text string) {
	p := api.Page{Kind: api.Data, Lba: uint32(lba), Seq: 9, Epoch: 8, Group: 7, Index: 6, Total: 5}
	copy(p.Payload[:], text)
	c.put(at, p)
}

// stream lays a stream's pages, but for those left out, and tells where they begin.
func (c *canvas) stream(s leaf.Stream, without ...int) int {
	pages, e := leaf.Cut(s)
	if e != api.OK {
		panic(e)
	}
	at := c.at
	for i, p := range pages {
		if !slices.Contains(without, i) {
			c.put(c.at, p)
			c.at++
		}
	}
	return at
}

// snap lays a snapshot.
func (c *canvas) snap(epoch uint32, runs ...api.Run) int {
	b, e := delta.Snapshot(runs)
	if e != api.OK {
		panic(e)
	}
	return c.stream(leaf.Stream{Kind: api.Snap, Epoch: epoch, Bytes: b})
}

// log lays a record.
func (c *canvas) log(epoch, group uint32, ops ...api.Op) int {
	b, e := delta.Record(ops)
	if e != api.OK {
		panic(e)
	}
	return c.stream(leaf.Stream{Kind: api.Log, Epoch: epoch, Group: group, Bytes: b})
}

// plainPages is P19.1's words.
func plainPages(c api.Config, img []byte) ([]api.Page, []int) {
	var pages []api.Page
	var numbers []int
	for i := 0; i < c.Blocks*c.Pages; i++ {
		if p, e := tag.Decode(img[i*68 : i*68+68]); e == api.OK {
			pages, numbers = append(pages, p), append(numbers, i)
		}
	}
	return pages, numbers
}

// plainSnapshots tells the right snapshots, by their epochs.
func plainSnapshots(c api.Config, streams []leaf.Stream) map[uint32][]int {
	found := map[uint32][]int{}
	for _, s := range streams {
		if s.Kind != api.Snap || s.Group != 0 {
			continue
		}
		runs, e := delta.Runs(s.Bytes)
		if e != api.OK {
			continue
		}
		table, right := slices.Repeat([]int{-1}, 600), true
		for _, r := range runs {
			for i := range r.Len {
				right = right && r.Lba+i < c.Capacity && r.Phys+i < c.Blocks*c.Pages
				table[r.Lba+i] = r.Phys + i
			}
		}
		if right {
			found[s.Epoch] = table[:c.Capacity]
		}
	}
	return found
}

// plainRead is P19.2's words, on a table of sectors.
func plainRead(c api.Config, img []byte) (image.Told, []int, api.Errno) {
	pages, _ := plainPages(c, img)
	streams := leaf.Join(pages)
	found := plainSnapshots(c, streams)
	if len(found) == 0 {
		return image.Told{}, nil, api.ELOST
	}
	told := image.Told{}
	for epoch := range found {
		told.Epoch = max(told.Epoch, epoch)
	}
	table := found[told.Epoch]
	slices.SortStableFunc(streams, func(a, b leaf.Stream) int { return cmp.Compare(a.Group, b.Group) })
	for _, s := range streams {
		ops, e := delta.Changes(s.Bytes)
		if s.Kind != api.Log || s.Epoch != told.Epoch || e != api.OK {
			continue
		}
		told.Records++
		for _, o := range ops {
			if o.Len < 1 || o.Lba+o.Len > c.Capacity || o.Phys >= 0 && o.Phys+o.Len > c.Blocks*c.Pages {
				return image.Told{}, nil, api.EFORM
			}
			for i := range o.Len {
				table[o.Lba+i] = o.Phys + i
				if o.Phys < 0 {
					table[o.Lba+i] = -1
				}
			}
		}
		if len(plainRuns(table)) > c.MaxRuns {
			return image.Told{}, nil, api.EFORM
		}
	}
	told.Runs = plainRuns(table)
	return told, table, api.OK
}

// plainRuns tells a table's runs.
func plainRuns(table []int) []api.Run {
	var l []api.Run
	for lba, phys := range table {
		if phys < 0 {
			continue
		}
		if k := len(l) - 1; k >= 0 && l[k].Lba+l[k].Len == lba && l[k].Phys+l[k].Len == phys {
			l[k].Len++
		} else {
			l = append(l, api.Run{Lba: lba, Len: 1, Phys: phys})
		}
	}
	return l
}

// plainContent is P19.3's words.
func plainContent(c api.Config, img []byte) (string, api.Errno) {
	_, table, e := plainRead(c, img)
	if e != api.OK {
		return "", e
	}
	var content []byte
	for lba, phys := range table {
		sector := make([]byte, 32)
		if phys >= 0 {
			p, e := tag.Decode(img[phys*68 : phys*68+68])
			if e != api.OK || p.Kind != api.Data || p.Lba != uint32(lba) {
				return "", api.ECRC
			}
			copy(sector, p.Payload[:])
		}
		content = append(content, sector...)
	}
	return string(content), api.OK
}

// plainEpochs is P19.3's words.
func plainEpochs(c api.Config, img []byte) []uint32 {
	pages, _ := plainPages(c, img)
	var l []uint32
	for epoch := range plainSnapshots(c, leaf.Join(pages)) {
		l = append(l, epoch)
	}
	slices.Sort(l)
	return l
}

// sound holds all four calls against the words, and tells Read's error.
func sound(t *testing.T, what string, c api.Config, img []byte) (image.Told, api.Errno) {
	t.Helper()
	was := slices.Clone(img)
	pages, numbers, e := image.Pages(c, img)
	if p, n := plainPages(c, img); e != api.OK || !slices.Equal(pages, p) || !slices.Equal(numbers, n) {
		t.Fatalf("P19.1: %s: Pages: %d, %d pages, want %d", what, e, len(pages), len(p))
	}
	told, e := image.Read(c, img)
	want, _, f := plainRead(c, img)
	if e != f || told.Epoch != want.Epoch || told.Records != want.Records || !slices.Equal(told.Runs, want.Runs) {
		t.Fatalf("P19.2: %s: Read: %v, %d, want %v, %d", what, told, e, want, f)
	}
	content, g := image.Content(c, img)
	if wanted, h := plainContent(c, img); content != wanted || g != h {
		t.Fatalf("P19.3: %s: Content: %q, %d, want %q, %d", what, content, g, wanted, h)
	}
	epochs, g := image.Epochs(c, img)
	if wanted := plainEpochs(c, img); g != api.OK || !slices.Equal(epochs, wanted) {
		t.Fatalf("P19.3: %s: Epochs: %v, %d, want %v", what, epochs, g, wanted)
	}
	if !slices.Equal(img, was) {
		t.Fatalf("R4: %s: the image was changed", what)
	}
	return told, e
}
