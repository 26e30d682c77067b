package dev_test

import (
	"cmp"
	"fmt"
	"slices"

	"ferrule/api"
	"ferrule/delta"
	"ferrule/leaf"
	"ferrule/tag"
)

// reader reads an image by the words of chapter 18's first section, with the calls
// of tag, leaf and delta alone.
type reader struct {
	pages map[[api.PageBytes]byte]decoded // what was decoded once: most pages come again
}

type decoded struct {
	page api.Page
	e    api.Errno
}

func (r *reader) decode(b []byte) (api.Page, api.Errno) {
	key := [api.PageBytes]byte(b)
	x, ok := r.pages[key]
	if !ok {
		x.page, x.e = tag.Decode(b)
		if r.pages == nil || len(r.pages) > 50000 {
			r.pages = map[[api.PageBytes]byte]decoded{}
		}
		r.pages[key] = x
	}
	return x.page, x.e
}

// all tells each page of an image that is whole, by its number.
func (r *reader) all(c api.Config, img []byte) map[int]api.Page {
	pages := map[int]api.Page{}
	for i := range c.Blocks * c.Pages {
		if p, e := r.decode(img[i*api.PageBytes : (i+1)*api.PageBytes]); e == api.OK {
			pages[i] = p
		}
	}
	return pages
}

// told is what a flash alone tells.
type told struct {
	epoch   uint32
	records int
	pages   []int // each sector's page, or -1
	content string
	logged  int // how many whole pages its records have, those that are not whole, too
	above   int // how many epochs above it have pages in blocks that are not bad
}

// read tells what the flash alone tells, or why it does not tell anything.
func (r *reader) read(c api.Config, img []byte) (told, string) {
	pages := r.all(c, img)
	x, why := mapOf(c, pages)
	if why != "" {
		return told{}, why
	}
	content := make([]byte, c.Capacity*32)
	for lba, phys := range x.pages {
		if phys < 0 {
			continue
		}
		p, ok := pages[phys]
		if !ok || p.Kind != api.Data || p.Lba != uint32(lba) {
			return told{}, fmt.Sprintf("the map names the page %d for the sector %d: %v", phys, lba, p)
		}
		copy(content[lba*32:], p.Payload[:])
	}
	x.content = string(content)
	above := map[uint32]bool{}
	for i, p := range pages {
		if p.Kind == api.Log && p.Epoch == x.epoch {
			x.logged++
		}
		if p.Kind != api.Data && p.Epoch > x.epoch && img[c.Blocks*c.Pages*api.PageBytes+2*(i/c.Pages)]&1 == 0 {
			above[p.Epoch] = true
		}
	}
	x.above = len(above)
	return x, ""
}

// mapOf tells the map that the pages tell: the newest epoch whose snapshot is
// whole, and its records.
func mapOf(c api.Config, pages map[int]api.Page) (told, string) {
	var l []api.Page
	for _, p := range pages {
		if p.Kind != api.Data {
			l = append(l, p)
		}
	}
	streams := leaf.Join(l)
	snapshot, found := leaf.Stream{}, false
	for _, s := range streams {
		if s.Kind == api.Snap && s.Group != 0 {
			return told{}, fmt.Sprintf("a snapshot of the group %d", s.Group)
		}
		if s.Kind == api.Snap && (!found || s.Epoch > snapshot.Epoch) {
			snapshot, found = s, true
		}
	}
	runs, e := delta.Runs(snapshot.Bytes)
	if !found || e != api.OK {
		return told{}, "there is no snapshot"
	}
	x := told{epoch: snapshot.Epoch, pages: slices.Repeat([]int{-1}, c.Capacity)}
	for _, run := range runs {
		if !lay(c, x.pages, api.Op(run)) {
			return told{}, fmt.Sprintf("the snapshot has %v", run)
		}
	}
	why := x.add(c, streams)
	return x, why
}

// add does the changes of the epoch's records, in the order of their Groups.
func (x *told) add(c api.Config, streams []leaf.Stream) string {
	records := slices.DeleteFunc(slices.Clone(streams), func(s leaf.Stream) bool { return s.Kind != api.Log || s.Epoch != x.epoch })
	slices.SortStableFunc(records, func(a, b leaf.Stream) int { return cmp.Compare(a.Group, b.Group) })
	for _, s := range records {
		ops, e := delta.Changes(s.Bytes)
		if e != api.OK {
			return fmt.Sprintf("the record %d is none", s.Group)
		}
		for _, o := range ops {
			if !lay(c, x.pages, o) {
				return fmt.Sprintf("the record %d has %v", s.Group, o)
			}
		}
		if n := len(runsOf(x.pages)); n > c.MaxRuns {
			return fmt.Sprintf("behind the record %d there are %d runs", s.Group, n)
		}
		x.records++
	}
	return ""
}

// lay does a change in a table, if it is right.
func lay(c api.Config, table []int, o api.Op) bool {
	if o.Len < 1 || o.Lba+o.Len > c.Capacity || o.Phys >= 0 && o.Phys+o.Len > c.Blocks*c.Pages {
		return false
	}
	for i := range o.Len {
		table[o.Lba+i] = -1
		if o.Phys >= 0 {
			table[o.Lba+i] = o.Phys + i
		}
	}
	return true
}

// runsOf tells a table's runs, sector by sector.
func runsOf(table []int) []api.Run {
	var l []api.Run
	for lba, phys := range table {
		if phys < 0 {
			continue
		}
		if k := len(l) - 1; k >= 0 && l[k].Lba+l[k].Len == lba && l[k].Phys+l[k].Len == phys {
			l[k].Len++
		} else {
			l = append(l, api.Run{Lba: lba, Len: 1, Phys: phys})
		}
	}
	return l
}
