package dev

import (
	"ferrule/api"
	"ferrule/blocks"
	"ferrule/window"
)

const (
	// dataSlack is how many blocks beside the reserves are never data blocks but
	// while a block is collected.
	dataSlack = 2
	// richParts is how many parts a window has at least that is worth being
	// written anew: of what it has three are left at most, it and what lies at
	// its two ends.
	richParts = 5
)

// makeRoom collects blocks till n pages can be written (together: within one
// block), and tells the block to begin in, if one has room that was begun.
func (d *Device) makeRoom(n int, together bool) (int, api.Errno) {
	// A collection gives a block back, or leaves half a block for the next one
	// that does: so many are enough.
	for range 2 * d.config.Blocks {
		valid, e := d.valid()
		if e != api.OK {
			return none, e
		}
		block := d.roomiest(valid)
		if together {
			block = d.ifRoom(block, n)
		}
		if d.dataBlocks(valid)+d.freshFor(n, block) <= d.mostData() {
			return block, api.OK
		}
		if e := d.collect(valid); e != api.OK {
			return none, e
		}
	}
	return none, api.EFULL
}

// collect moves what of the block with the fewest valid pages is valid into one
// block: so the block is free.
func (d *Device) collect(valid []int) api.Errno {
	open := d.roomiest(valid)
	victim, ok := blocks.Victim(valid, d.victims(valid, open))
	if !ok {
		return api.EFULL
	}
	moves, e := blocks.Moves(d.sectors.Runs(), victim, d.config.Pages)
	if e != api.OK {
		return e
	}
	var pages []api.Page
	for _, m := range moves {
		l, e := d.gather(m.Lba, m.Len)
		if e != api.OK {
			return e
		}
		pages = append(pages, l...)
	}
	at, e := d.layTogether(pages, d.ifRoom(open, len(pages)))
	if e != api.OK {
		return e
	}
	if e := d.commit(moved(moves, at)); e != api.OK {
		return e
	}
	d.work.Collections++
	return api.OK
}

// moved tells the changes by which runs stand one behind the other from a page on.
func moved(moves []api.Run, at int) []api.Op {
	var ops []api.Op
	for _, m := range moves {
		ops = append(ops, api.Op{Lba: m.Lba, Len: m.Len, Phys: at})
		at += m.Len
	}
	return ops
}

// thin writes windows anew till there may be so many more runs, cut where blocks
// end. One more for each block that may still fail is kept: a write that it
// befalls is cut there.
func (d *Device) thin(more int) api.Errno {
	for {
		parts, e := blocks.Split(d.sectors.Runs(), d.config.Pages)
		if e != api.OK {
			return e
		}
		if len(parts)+more+d.config.Spare-d.badBlocks() <= d.config.MaxRuns {
			return api.OK
		}
		lba, n, rich, e := window.Richest(apart(parts, d.config.Pages), d.config.Capacity, d.config.Window)
		if e != api.OK {
			return e
		}
		if rich < richParts {
			return api.EFULL
		}
		if e := d.rewrite(lba, n); e != api.OK {
			return e
		}
	}
}

// apart tells runs that are cut where blocks end as if a page lay between each two
// blocks: so that they are in their one form.
func apart(parts []api.Run, pages int) []api.Run {
	l := make([]api.Run, len(parts))
	for i, r := range parts {
		l[i] = api.Run{Lba: r.Lba, Len: r.Len, Phys: r.Phys + r.Phys/pages}
	}
	return l
}

// rewrite writes a range anew within one block, its holes, too.
func (d *Device) rewrite(lba, n int) api.Errno {
	block, e := d.makeRoom(n, true)
	if e != api.OK {
		return e
	}
	pages, e := d.gather(lba, n)
	if e != api.OK {
		return e
	}
	at, e := d.layTogether(pages, block)
	if e != api.OK {
		return e
	}
	if e := d.commit([]api.Op{{Lba: lba, Len: n, Phys: at}}); e != api.OK {
		return e
	}
	d.work.Rewrites++
	return api.OK
}

// mostData tells how many data blocks there may be: as many as leave the blocks
// that epochs need and those that may still fail, and some to collect with. As
// three times the capacity is less than they hold, and a write takes a third of
// them at most, the least of the others is at most half full.
func (d *Device) mostData() int {
	return d.config.Blocks - d.config.Spare - d.sizes().MetaBlocks - dataSlack
}

// isData tells whether a block is a data block. A bad one is none: no block is
// got back from it.
func (d *Device) isData(block int, valid []int) bool {
	return valid[block] > 0 && !d.bad(block) && !d.isLive(block)
}

// dataBlocks tells how many there are.
func (d *Device) dataBlocks(valid []int) int {
	n := 0
	for b := range valid {
		if d.isData(b, valid) {
			n++
		}
	}
	return n
}

// roomiest tells the data block with the most room, none, if no one has any.
func (d *Device) roomiest(valid []int) int {
	best := none
	for b := range valid {
		if d.isData(b, valid) && d.room(b) > 0 && (best == none || d.room(b) > d.room(best)) {
			best = b
		}
	}
	return best
}

// victims tells which blocks may be collected: the data blocks but the one that
// has room for what is moved.
func (d *Device) victims(valid []int, open int) []bool {
	may := make([]bool, len(valid))
	for b := range may {
		may[b] = b != open && d.isData(b, valid)
	}
	return may
}

// ifRoom tells the block itself, if it has room for n pages.
func (d *Device) ifRoom(block, n int) int {
	if block == none || d.room(block) < n {
		return none
	}
	return block
}

// freshFor tells how many fresh blocks n pages take which begin in a block.
func (d *Device) freshFor(n, block int) int {
	if block != none {
		n = max(0, n-d.room(block))
	}
	return up(n, d.config.Pages)
}
