package nand

import (
	"bytes"
	"testing"

	"ferrule/api"
)

// wordFlash follows chapter 2's words one by one: it knows which chunks were
// written, and makes bytes of them when it is asked.
type wordFlash struct {
	blocks []wordBlock
	on     bool
	cut    int // below 0: none
	fail   int // below 0: none
	stat   Stat
}

// wordBlock is a block: of each page the chunks that were written.
type wordBlock struct {
	chunks    [][][]byte
	torn, bad bool
	wear      int
}

func newWordFlash(blocks, pages int) *wordFlash {
	w := &wordFlash{on: true, cut: -1, fail: -1, blocks: make([]wordBlock, blocks)}
	for i := range w.blocks {
		w.blocks[i].chunks = make([][][]byte, pages)
	}
	return w
}

func (w *wordFlash) pages() int { return len(w.blocks[0].chunks) }

func (b *wordBlock) next() int {
	for p, c := range b.chunks {
		if len(c) == 0 {
			return p
		}
	}
	return len(b.chunks)
}

func (b *wordBlock) bytes(p int) []byte {
	rest := []byte{255}
	if b.torn {
		rest = []byte{0}
	}
	d := bytes.Join(b.chunks[p], nil)
	return append(d, bytes.Repeat(rest, api.PageBytes-len(d))...)
}

// do does steps till one is not done.
func (w *wordFlash) do(steps ...func()) bool {
	for _, s := range steps {
		if w.cut == 0 {
			w.on = false
			return false
		}
		w.cut--
		s()
	}
	return true
}

func (w *wordFlash) begin(count *int) bool {
	*count++
	fails := w.fail == 0
	w.fail--
	return fails
}

func (w *wordFlash) program(page int, data []byte) api.Errno {
	b, p := &w.blocks[page/w.pages()], page%w.pages()
	switch {
	case !w.on:
		return api.EOFF
	case b.bad:
		return api.EBAD
	case b.torn || p != b.next():
		return api.EORDER
	}
	steps := []func(){}
	for i := 0; i < len(data); i += api.ChunkBytes {
		steps = append(steps, func() { b.chunks[p] = append(b.chunks[p], bytes.Clone(data[i:i+api.ChunkBytes])) })
	}
	if !w.begin(&w.stat.Programs) {
		if !w.do(steps...) {
			return api.EOFF
		}
		return api.OK
	}
	if !w.do(steps[:4]...) {
		return api.EOFF
	}
	b.bad = true
	return api.EBAD
}

func (w *wordFlash) erase(block int) api.Errno {
	b := &w.blocks[block]
	switch {
	case !w.on:
		return api.EOFF
	case b.bad:
		return api.EBAD
	}
	fails := w.begin(&w.stat.Erases)
	b.wear++
	if !w.do(func() { b.torn, b.chunks = true, make([][][]byte, len(b.chunks)) }) {
		return api.EOFF
	}
	if fails {
		b.bad = true
		return api.EBAD
	}
	if !w.do(func() { b.torn = false }) {
		return api.EOFF
	}
	return api.OK
}

func (w *wordFlash) tell() told {
	o := told{stat: w.stat, power: w.on}
	marks := []byte{}
	for i := range w.blocks {
		b := &w.blocks[i]
		for p := range b.chunks {
			o.image = append(o.image, b.bytes(p)...)
		}
		m := byte(0)
		if b.bad {
			m++
		}
		if b.torn {
			m += 2
		}
		marks = append(marks, m, byte(b.next()))
		o.next, o.bad, o.wear = append(o.next, b.next()), append(o.bad, b.bad), append(o.wear, b.wear)
	}
	o.image = append(o.image, marks...)
	return o
}

// walk makes numbers that hang on its start alone.
type walk uint32

func (r *walk) below(n int) int {
	*r = *r*1664525 + 1013904223
	return int(uint32(*r)>>8) % n
}

// move does one call, any, on both flashes.
func move(t *testing.T, r *walk, f *Nand, w *wordFlash, blocks, pages int) {
	t.Helper()
	switch r.below(12) {
	case 0, 1, 2, 3, 4, 5:
		b := r.below(blocks)
		p, d := b*pages+min(w.blocks[b].next(), pages-1), mixed(r.below(1000))
		if r.below(8) == 0 {
			p = r.below(blocks * pages)
		}
		want(t, "P2.2: Program", f.Program(p, d), w.program(p, d))
		checkLastChunk(t, f.Image()[p*api.PageBytes:][:api.PageBytes], d)
	case 6, 7:
		b := r.below(blocks)
		want(t, "P2.3: Erase", f.Erase(b), w.erase(b))
	case 8:
		p := r.below(blocks * pages)
		b, e := f.Read(p)
		if !w.on {
			want(t, "P2.4: Read, off", e, api.EOFF)
		} else if w.stat.Reads++; e != api.OK || !bytes.Equal(b, w.blocks[p/pages].bytes(p%pages)) {
			t.Errorf("P2.4: Read(%d): %v, %d", p, b, e)
		}
	case 9:
		k := r.below(40) - 2
		f.Cut(k)
		w.cut = k
	case 10:
		if k := r.below(60) - 2; k > 40 || k < 0 {
			f.Fail(k % 3)
			w.fail = k % 3
		}
	default:
		f.On()
		w.on, w.cut = true, -1
	}
}

// checkLastChunk holds P2.7's consequence: no two pages that mixed makes have
// one last chunk, but those that are alike, and none has a clean or torn one.
func checkLastChunk(t *testing.T, page, data []byte) {
	t.Helper()
	at := api.PageBytes - api.ChunkBytes
	if bytes.Equal(page[at:], data[at:]) && !bytes.Equal(page, data) {
		t.Error("P2.7: a page has its last chunk and not all of them")
	}
}

func TestWalksAsWritten(t *testing.T) {
	for start := range walk(300) {
		r := start
		blocks, pages := 1+r.below(4), 1+r.below(4)
		f, w := flash(t, blocks, pages), newWordFlash(blocks, pages)
		for i := range 150 {
			move(t, &r, f, w, blocks, pages)
			if !tell(f, blocks).same(w.tell()) {
				t.Fatalf("P2.2 to P2.6: walk %d, call %d: the flash is not as chapter 2 tells", start, i)
			}
			if i%10 == 0 {
				g, e := Load(blocks, pages, f.Image())
				if e != api.OK || !bytes.Equal(g.Image(), f.Image()) {
					t.Fatalf("P2.6: walk %d, call %d: Load: %d", start, i, e)
				}
			}
		}
	}
}
