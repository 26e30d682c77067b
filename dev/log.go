package dev

import (
	"slices"

	"ferrule/api"
	"ferrule/delta"
	"ferrule/leaf"
	"ferrule/span"
)

// commit writes a record of changes, and does them in the map: what was written
// ahead of it, in blocks that are held, is no longer in flight then.
func (d *Device) commit(ops []api.Op) api.Errno {
	b, e := delta.Record(ops)
	if e != api.OK {
		return e
	}
	if d.logged()+leaf.Pages(len(b)) > d.sizes().LogPages {
		if e := d.newEpoch(); e != api.OK {
			return e
		}
	}
	s := leaf.Stream{Kind: api.Log, Epoch: d.live, Group: d.group + 1, Bytes: b}
	if _, e := d.putStream(s, d.logBlock()); e != api.OK {
		return e
	}
	d.group++
	d.work.Records++
	d.release()
	return span.Apply(d.sectors, ops)
}

// newEpoch writes the map as a snapshot of a new epoch, which is the live one
// then: the blocks of the old one are free.
func (d *Device) newEpoch() api.Errno {
	if e := d.eraseAbove(); e != api.OK {
		return e
	}
	b, e := delta.Snapshot(d.sectors.Runs())
	if e != api.OK {
		return e
	}
	// Bad blocks keep their pages: their epochs must not be gone on with.
	s := leaf.Stream{Kind: api.Snap, Epoch: slices.Max(append(d.epochs(), d.live)) + 1, Bytes: b}
	n, e := d.putStream(s, none)
	if e != api.OK {
		return e
	}
	d.live, d.group, d.snap = s.Epoch, 0, n
	d.work.Snapshots++
	return api.OK
}

// eraseAbove erases the blocks of epochs above the live one, whose snapshots were
// cut: so a mount has never more than one such epoch to look through.
func (d *Device) eraseAbove() api.Errno {
	for b, f := range d.firsts {
		if !f.meta || f.epoch <= d.live || d.bad(b) {
			continue
		}
		if e := d.erase(b); e != api.OK {
			return e
		}
	}
	return api.OK
}

// putStream writes a stream's pages, one behind the other, from a block on, and
// tells how many they are.
func (d *Device) putStream(s leaf.Stream, block int) (int, api.Errno) {
	pages, e := leaf.Cut(s)
	if e != api.OK {
		return 0, e
	}
	for rest := pages; len(rest) > 0; {
		if block, e = d.orFresh(block); e != api.OK {
			return 0, e
		}
		n, e := d.fill(block, rest)
		if e != api.OK {
			return 0, e
		}
		rest = rest[n:]
	}
	return len(pages), api.OK
}

// logBlock tells the block in which the live epoch's pages go on.
func (d *Device) logBlock() int {
	for b := range d.firsts {
		if d.isLive(b) && d.takesPages(b) {
			return b
		}
	}
	return none
}

// logged tells how many pages of the live epoch are no snapshot's: those of
// records, whole or not, and those that failed.
func (d *Device) logged() int {
	n := -d.snap
	for b := range d.firsts {
		if d.isLive(b) {
			n += d.config.Pages - d.room(b)
		}
	}
	return n
}

// isLive tells whether a block is of the live epoch.
func (d *Device) isLive(block int) bool {
	return d.firsts[block].meta && d.firsts[block].epoch == d.live
}
