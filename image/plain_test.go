package image_test

import (
	"cmp"
	"slices"
	"testing"

	"ferrule/api"
	"ferrule/delta"
	"ferrule/image"
	"ferrule/leaf"
	"ferrule/tag"
)

// config is that of chapter 18's examples.
var config = api.Config{Blocks: 40, Pages: 8, Capacity: 48, Spare: 2, MaxRuns: 48, Window: 8}

// few is a Config with fewer runs than sectors.
var few = api.Config{Blocks: 17, Pages: 32, Capacity: 32, MaxRuns: 13, Window: 32}

// dice roll numbers, the same ones for the same seed.
type dice struct{ state uint64 }

func (d *dice) roll(n int) int {
	d.state = d.state*6364136223846793005 + 1442695040888963407
	return int(d.state>>33) % n
}

// one is true once in n times.
func (d *dice) one(n int) bool { return d.roll(n) == 0 }

// canvas is an image that is put together page by page.
type canvas struct {
	img []byte
	at  int // where the next stream's pages go
}

// newCanvas makes an image of bytes 255, and 0 for the blocks.
func newCanvas() *canvas { return canvasOf(config, 100) }

// canvasOf makes one of a Config's flash, with its streams from a page on.
func canvasOf(c api.Config, at int) *canvas {
	img := slices.Repeat([]byte{255}, c.Blocks*c.Pages*68)
	return &canvas{img: append(img, make([]byte, 2*c.Blocks)...), at: at}
}

// put lays a page at a place.
func (c *canvas) put(at int, p api.Page) {
	b, e := tag.Encode(p)
	if e != api.OK {
		panic(e)
	}
	copy(c.img[at*68:], b)
}

// data lays a sector's page.
func (c *canvas) data(at, lba int, text string) {
	p := api.Page{Kind: api.Data, Lba: uint32(lba), Seq: 9, Epoch: 8, Group: 7, Index: 6, Total: 5}
	copy(p.Payload[:], text)
	c.put(at, p)
}

// stream lays a stream's pages, but for those left out, and tells where they begin.
func (c *canvas) stream(s leaf.Stream, without ...int) int {
	pages, e := leaf.Cut(s)
	if e != api.OK {
		panic(e)
	}
	at := c.at
	for i, p := range pages {
		if !slices.Contains(without, i) {
			c.put(c.at, p)
			c.at++
		}
	}
	return at
}

// snap lays a snapshot.
func (c *canvas) snap(epoch uint32, runs ...api.Run) int {
	b, e := delta.Snapshot(runs)
	if e != api.OK {
		panic(e)
	}
	return c.stream(leaf.Stream{Kind: api.Snap, Epoch: epoch, Bytes: b})
}

// log lays a record.
func (c *canvas) log(epoch, group uint32, ops ...api.Op) int {
	b, e := delta.Record(ops)
	if e != api.OK {
		panic(e)
	}
	return c.stream(leaf.Stream{Kind: api.Log, Epoch: epoch, Group: group, Bytes: b})
}

// plainPages is P19.1's words.
func plainPages(c api.Config, img []byte) ([]api.Page, []int) {
	var pages []api.Page
	var numbers []int
	for i := 0; i < c.Blocks*c.Pages; i++ {
		if p, e := tag.Decode(img[i*68 : i*68+68]); e == api.OK {
			pages, numbers = append(pages, p), append(numbers, i)
		}
	}
	return pages, numbers
}

// whose says to which stream a page belongs.
type whose struct {
	kind         int
	epoch, group uint32
}

// plainJoin tells the streams that are whole, in the order of their groups.
func plainJoin(pages []api.Page) []leaf.Stream {
	sets := map[whose][]api.Page{}
	for _, p := range pages {
		if p.Kind == api.Snap || p.Kind == api.Log {
			k := whose{p.Kind, p.Epoch, p.Group}
			sets[k] = append(sets[k], p)
		}
	}
	var l []leaf.Stream
	for k, set := range sets {
		if b, ok := plainWhole(set); ok {
			l = append(l, leaf.Stream{Kind: k.kind, Epoch: k.epoch, Group: k.group, Bytes: b})
		}
	}
	slices.SortFunc(l, func(a, b leaf.Stream) int { return cmp.Compare(a.Group, b.Group) })
	return l
}

// plainWhole tells the bytes of a stream of which these are the pages.
func plainWhole(l []api.Page) ([]byte, bool) {
	n, total := int(l[0].Lba), int(l[0].Total)
	payloads := map[int][32]byte{}
	for _, p := range l {
		was, ok := payloads[int(p.Index)]
		if p.Lba != l[0].Lba || p.Total != l[0].Total || ok && was != p.Payload {
			return nil, false
		}
		payloads[int(p.Index)] = p.Payload
	}
	if n > 65536 || total != max(1, (n+31)/32) || len(payloads) != total {
		return nil, false
	}
	var b []byte
	for i := range total {
		payload, ok := payloads[i]
		if !ok {
			return nil, false
		}
		b = append(b, payload[:]...)
	}
	return b[:n], slices.Max(append(b[n:], 0)) == 0
}

// plainSnapshots tells the right snapshots, by their epochs.
func plainSnapshots(c api.Config, streams []leaf.Stream) map[uint32][]int {
	found := map[uint32][]int{}
	for _, s := range streams {
		if s.Kind != api.Snap || s.Group != 0 {
			continue
		}
		runs, e := delta.Runs(s.Bytes)
		if e != api.OK {
			continue
		}
		table, right := slices.Repeat([]int{-1}, 600), true
		for _, r := range runs {
			for i := range r.Len {
				right = right && r.Lba+i < c.Capacity && r.Phys+i < c.Blocks*c.Pages
				table[r.Lba+i] = r.Phys + i
			}
		}
		if right {
			found[s.Epoch] = table[:c.Capacity]
		}
	}
	return found
}

// plain is an image that is read by the words.
type plain struct {
	c       api.Config
	pages   []api.Page
	numbers []int
	streams []leaf.Stream
}

func plainly(c api.Config, img []byte) plain {
	pages, numbers := plainPages(c, img)
	return plain{c, pages, numbers, plainJoin(pages)}
}

// read is P19.2's words, on a table of sectors.
func (p plain) read() (image.Told, []int, api.Errno) {
	c, found := p.c, plainSnapshots(p.c, p.streams)
	if len(found) == 0 {
		return image.Told{}, nil, api.ELOST
	}
	told := image.Told{}
	for epoch := range found {
		told.Epoch = max(told.Epoch, epoch)
	}
	table := found[told.Epoch]
	for _, s := range p.streams {
		ops, e := delta.Changes(s.Bytes)
		if s.Kind != api.Log || s.Epoch != told.Epoch || e != api.OK {
			continue
		}
		told.Records++
		for _, o := range ops {
			if o.Len < 1 || o.Lba+o.Len > c.Capacity || o.Phys >= 0 && o.Phys+o.Len > c.Blocks*c.Pages {
				return image.Told{}, nil, api.EFORM
			}
			for i := range o.Len {
				table[o.Lba+i] = o.Phys + i
				if o.Phys < 0 {
					table[o.Lba+i] = -1
				}
			}
		}
		if len(plainRuns(table)) > c.MaxRuns {
			return image.Told{}, nil, api.EFORM
		}
	}
	told.Runs = plainRuns(table)
	return told, table, api.OK
}

// plainRuns tells a table's runs.
func plainRuns(table []int) []api.Run {
	var l []api.Run
	for lba, phys := range table {
		if phys < 0 {
			continue
		}
		if k := len(l) - 1; k >= 0 && l[k].Lba+l[k].Len == lba && l[k].Phys+l[k].Len == phys {
			l[k].Len++
		} else {
			l = append(l, api.Run{Lba: lba, Len: 1, Phys: phys})
		}
	}
	return l
}

// content is P19.3's words.
func (p plain) content() (string, api.Errno) {
	_, table, e := p.read()
	if e != api.OK {
		return "", e
	}
	var content []byte
	for lba, phys := range table {
		sector := make([]byte, 32)
		if phys >= 0 {
			i := slices.Index(p.numbers, phys)
			if i < 0 || p.pages[i].Kind != api.Data || p.pages[i].Lba != uint32(lba) {
				return "", api.ECRC
			}
			copy(sector, p.pages[i].Payload[:])
		}
		content = append(content, sector...)
	}
	return string(content), api.OK
}

// epochs is P19.3's words.
func (p plain) epochs() []uint32 {
	var l []uint32
	for epoch := range plainSnapshots(p.c, p.streams) {
		l = append(l, epoch)
	}
	slices.Sort(l)
	return l
}

// sound holds all four calls against the words, and tells Read's error.
func sound(t *testing.T, what string, c api.Config, img []byte) (image.Told, api.Errno) {
	t.Helper()
	was := string(img) + "spare room"
	room := []byte(was)
	img = room[:len(img)]
	p := plainly(c, img)
	pages, numbers, e := image.Pages(c, img)
	if e != api.OK || !slices.Equal(pages, p.pages) || !slices.Equal(numbers, p.numbers) {
		t.Fatalf("P19.1: %s: Pages: %d, %d pages, want %d", what, e, len(pages), len(p.pages))
	}
	told, e := image.Read(c, img)
	want, _, f := p.read()
	if e != f || told.Epoch != want.Epoch || told.Records != want.Records || !slices.Equal(told.Runs, want.Runs) {
		t.Fatalf("P19.2: %s: Read: %v, %d, want %v, %d", what, told, e, want, f)
	}
	content, g := image.Content(c, img)
	if wanted, h := p.content(); content != wanted || g != h {
		t.Fatalf("P19.3: %s: Content: %q, %d, want %q, %d", what, content, g, wanted, h)
	}
	epochs, g := image.Epochs(c, img)
	if wanted := p.epochs(); g != api.OK || !slices.Equal(epochs, wanted) {
		t.Fatalf("P19.3: %s: Epochs: %v, %d, want %v", what, epochs, g, wanted)
	}
	if string(room) != was {
		t.Fatalf("R4: %s: the image was changed, or the room behind it", what)
	}
	return told, e
}
