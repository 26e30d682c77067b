package dev

import (
	"slices"

	"ferrule/api"
	"ferrule/blocks"
	"ferrule/tag"
)

// dataPages tells the pages of a range's sectors, data's bytes in them and
// noughts behind.
func dataPages(lba, n int, data string) []api.Page {
	pages := make([]api.Page, n)
	for i := range pages {
		pages[i] = api.Page{Kind: api.Data, Lba: uint32(lba + i)}
		data = data[copy(pages[i].Payload[:], data):]
	}
	return pages
}

// gather tells the pages of a range's sectors as they are, of holes, too.
func (d *Device) gather(lba, n int) ([]api.Page, api.Errno) {
	pieces, e := d.sectors.Range(lba, n)
	if e != api.OK {
		return nil, e
	}
	pages := make([]api.Page, 0, n)
	for _, p := range pieces {
		if p.Phys == nowhere {
			pages = append(pages, dataPages(p.Lba, p.Len, "")...)
			continue
		}
		for i := range p.Len {
			page, e := d.readPage(p.Phys+i, p.Lba+i)
			if e != api.OK {
				return nil, e
			}
			pages = append(pages, page)
		}
	}
	return pages, api.OK
}

// readPage reads a sector's page. (Of a device's own flash it is never another one.)
func (d *Device) readPage(phys, lba int) (api.Page, api.Errno) {
	bytes, e := d.flash.Read(phys)
	if e != api.OK {
		return api.Page{}, e
	}
	p, e := tag.Decode(bytes)
	if e != api.OK || p.Kind != api.Data || p.Lba != uint32(lba) {
		return api.Page{}, api.ECRC
	}
	return p, api.OK
}

// lay writes a range's pages, from a block on, into as many blocks as it takes,
// and tells where they are. What stood in a block that fails stays there.
func (d *Device) lay(pages []api.Page, block int) ([]api.Op, api.Errno) {
	var ops []api.Op
	for len(pages) > 0 {
		var e api.Errno
		if block, e = d.orFresh(block); e != api.OK {
			return nil, e
		}
		at := d.nextPage(block)
		n, e := d.fill(block, pages)
		if e != api.OK {
			return nil, e
		}
		if n > 0 {
			ops = append(ops, api.Op{Lba: int(pages[0].Lba), Len: n, Phys: at})
		}
		pages = pages[n:]
	}
	return ops, api.OK
}

// layTogether writes pages one behind the other within a block that has room for
// all of them, and tells where they begin. If the block fails, all of them are
// written anew in another one: so that no run of them is ever cut.
func (d *Device) layTogether(pages []api.Page, block int) (int, api.Errno) {
	for {
		var e api.Errno
		if block, e = d.orFresh(block); e != api.OK {
			return 0, e
		}
		at := d.nextPage(block)
		n, e := d.fill(block, pages)
		if e != api.OK || n == len(pages) {
			return at, e
		}
	}
}

// fill programs pages in a block, as many as it has room for, or as go well, and
// tells how many these are. That the block fails is no error, as long as so many
// blocks may.
func (d *Device) fill(block int, pages []api.Page) (int, api.Errno) {
	n := min(len(pages), d.room(block))
	for i, p := range pages[:n] {
		e := d.program(block, p)
		if e == api.EBAD {
			return i, d.dead()
		}
		if e != api.OK {
			return 0, e
		}
	}
	return n, api.OK
}

// program writes a block's next page.
func (d *Device) program(block int, p api.Page) api.Errno {
	bytes, e := tag.Encode(p)
	if e != api.OK {
		return e
	}
	page := d.nextPage(block)
	if e := d.flash.Program(page, bytes); e != api.OK {
		return e
	}
	if page == block*d.config.Pages {
		d.firsts[block] = firstOf(p)
	}
	return api.OK
}

// orFresh tells the block itself, or, if no page can be written there, a fresh one.
func (d *Device) orFresh(block int) (int, api.Errno) {
	if block != none && d.takesPages(block) {
		return block, api.OK
	}
	return d.take()
}

// take takes a free block, and cleans it.
func (d *Device) take() (int, api.Errno) {
	valid, e := d.valid()
	if e != api.OK {
		return none, e
	}
	for b := range valid {
		if valid[b] > 0 || d.bad(b) || d.isLive(b) || slices.Contains(d.held, b) {
			continue
		}
		if !d.firsts[b].clean {
			if e := d.erase(b); e != api.OK {
				return none, e
			}
		}
		if !d.bad(b) {
			d.held = append(d.held, b)
			return b, api.OK
		}
	}
	return none, api.EFULL
}

// erase cleans a block. That it fails is no error, as long as so many blocks may.
func (d *Device) erase(block int) api.Errno {
	d.firsts[block] = first{}
	e := d.flash.Erase(block)
	if e == api.EBAD {
		return d.dead()
	}
	d.firsts[block].clean = e == api.OK
	return e
}

// release says that nothing is in flight.
func (d *Device) release() { d.held = nil }

// valid tells how many pages of each block the map names.
func (d *Device) valid() ([]int, api.Errno) {
	return blocks.Valid(d.sectors.Runs(), d.config.Blocks, d.config.Pages)
}

// takesPages tells whether a page can be written in a block.
func (d *Device) takesPages(block int) bool { return !d.bad(block) && d.room(block) > 0 }

// room tells how many pages of a block have not been begun.
func (d *Device) room(block int) int {
	next, _ := d.flash.Next(block)
	return d.config.Pages - next
}

// nextPage tells the page of a block that is written next.
func (d *Device) nextPage(block int) int {
	return (block+1)*d.config.Pages - d.room(block)
}
