package dev

import (
	"slices"

	"ferrule/api"
	"ferrule/chart"
	"ferrule/leaf"
	"ferrule/span"
	"ferrule/tag"
)

// first is what a block's first page says. A block holds pages of one epoch, or
// data pages, so that it is enough; one whose first page was not written to its
// end holds nothing.
type first struct {
	clean bool
	meta  bool   // it is of an epoch
	epoch uint32 // which one
}

// firstOf tells what a block's first page says that is written whole.
func firstOf(p api.Page) first {
	if p.Kind == api.Data {
		return first{}
	}
	return first{meta: true, epoch: p.Epoch}
}

// begin makes a new flash that of a device: its first epoch has nothing.
func (d *Device) begin() api.Errno {
	if e := d.look(); e != api.OK {
		return e
	}
	if e := d.setMap(nil); e != api.OK {
		return e
	}
	if e := d.newEpoch(); e != api.OK {
		return e
	}
	d.release()
	d.work = Work{}
	d.found = true
	return api.OK
}

// find finds on the flash what a device knows. It does no step: what a cut has
// left lies there till its block is needed.
func (d *Device) find() api.Errno {
	if e := d.look(); e != api.OK {
		return e
	}
	for _, epoch := range d.epochs() {
		pages, e := d.pagesOf(epoch)
		if e != api.OK {
			return e
		}
		told, e := chart.Read(d.config, leaf.Join(pages))
		if e == api.ELOST {
			continue
		}
		if e != api.OK || d.setMap(told.Runs) != api.OK {
			return api.ELOST
		}
		d.setEpoch(epoch, pages)
		return d.dead()
	}
	return api.ELOST
}

// look reads each block's first page.
func (d *Device) look() api.Errno {
	d.firsts = make([]first, d.config.Blocks)
	for b := range d.firsts {
		bytes, e := d.flash.Read(b * d.config.Pages)
		if e != api.OK {
			return e
		}
		if p, e := tag.Decode(bytes); e == api.OK {
			d.firsts[b] = firstOf(p)
		}
		d.firsts[b].clean = tag.Clean(bytes)
	}
	return api.OK
}

// epochs tells the epochs that blocks are of, the newest one first.
func (d *Device) epochs() []uint32 {
	var l []uint32
	for _, f := range d.firsts {
		if f.meta {
			l = append(l, f.epoch)
		}
	}
	slices.Sort(l)
	l = slices.Compact(l)
	slices.Reverse(l)
	return l
}

// pagesOf tells the whole pages of an epoch.
func (d *Device) pagesOf(epoch uint32) ([]api.Page, api.Errno) {
	var pages []api.Page
	for b, f := range d.firsts {
		if !f.meta || f.epoch != epoch {
			continue
		}
		for i := range d.config.Pages - d.room(b) {
			bytes, e := d.flash.Read(b*d.config.Pages + i)
			if e != api.OK {
				return nil, e
			}
			if p, e := tag.Decode(bytes); e == api.OK && p.Epoch == epoch {
				pages = append(pages, p)
			}
		}
	}
	return pages, api.OK
}

// setMap makes the map one of these runs.
func (d *Device) setMap(l []api.Run) api.Errno {
	m, e := span.New(d.config.Flat, d.config.Capacity, d.config.MaxRuns)
	if e != api.OK {
		return e
	}
	for _, r := range l {
		if e := m.Set(r.Lba, r.Len, r.Phys); e != api.OK {
			return e
		}
	}
	d.sectors = m
	return api.OK
}

// setEpoch makes an epoch, whose whole pages these are, the live one.
func (d *Device) setEpoch(epoch uint32, pages []api.Page) {
	d.live, d.group, d.snap = epoch, 0, 0
	for _, p := range pages {
		switch p.Kind {
		case api.Snap:
			d.snap = int(p.Total)
		case api.Log:
			// Of a record that is not whole, too: the next one must not be
			// taken for a part of it.
			d.group = max(d.group, p.Group)
		}
	}
}
