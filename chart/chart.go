// Package chart tells the map that whole streams tell: see DOC.md, chapter 18,
// 'On the flash', and chapter 19. The device's mount and the reading of an image
// have it in common.
package chart

import (
	"ferrule/api"
	"ferrule/delta"
	"ferrule/leaf"
	"ferrule/span"
)

const nowhere = -1 // the page of a change that leads to none

// Told is a map that streams tell.
type Told struct {
	Epoch   uint32
	Records int
	Runs    []api.Run
}

// Epochs tells which epochs have a right snapshot among streams in the order of
// leaf's Join, rising. The Config is one that may be, here and in Read.
func Epochs(c api.Config, l []leaf.Stream) []uint32 {
	var epochs []uint32
	for _, s := range l {
		if _, ok := snapshot(c, s); ok {
			epochs = append(epochs, s.Epoch)
		}
	}
	return epochs
}

// Read tells the map of the newest of these epochs; ELOST, if there is none;
// EFORM, if a record of it is not right.
func Read(c api.Config, l []leaf.Stream) (Told, api.Errno) {
	t, ok := newest(c, l)
	if !ok {
		return Told{}, api.ELOST
	}
	// Of as many runs as there are sectors at most: it is never full, and how
	// many runs there may be is asked behind each record.
	m, e := span.New(false, c.Capacity, api.MaxRuns)
	if e != api.OK {
		return Told{}, e
	}
	do(m, changes(t.Runs))
	for _, s := range l {
		ops, ok := record(s, t.Epoch)
		if !ok {
			continue
		}
		if !onFlash(c, ops) || !do(m, ops) || m.Count() > c.MaxRuns {
			return Told{}, api.EFORM
		}
		t.Records++
	}
	t.Runs = m.Runs()
	return t, api.OK
}

// newest tells the newest epoch with a right snapshot, and that one's runs.
func newest(c api.Config, l []leaf.Stream) (Told, bool) {
	var t Told
	found := false
	for _, s := range l {
		runs, ok := snapshot(c, s)
		if ok && (!found || s.Epoch > t.Epoch) {
			t, found = Told{Epoch: s.Epoch, Runs: runs}, true
		}
	}
	return t, found
}

// snapshot tells the runs of a stream, if it is a snapshot that is right for the
// capacity and the flash.
func snapshot(c api.Config, s leaf.Stream) ([]api.Run, bool) {
	if s.Kind != api.Snap || s.Group != 0 {
		return nil, false
	}
	runs, e := delta.Runs(s.Bytes)
	if e != api.OK || !onFlash(c, changes(runs)) {
		return nil, false
	}
	if k := len(runs) - 1; k >= 0 && runs[k].Lba+runs[k].Len > c.Capacity {
		return nil, false
	}
	return runs, true
}

// record tells the changes of a stream, if it is a record of an epoch.
func record(s leaf.Stream, epoch uint32) ([]api.Op, bool) {
	if s.Kind != api.Log || s.Epoch != epoch {
		return nil, false
	}
	ops, e := delta.Changes(s.Bytes)
	return ops, e == api.OK
}

// onFlash tells whether there are all the pages that changes name. (delta has
// bounded the numbers, so that no sum is too great.)
func onFlash(c api.Config, ops []api.Op) bool {
	for _, o := range ops {
		if o.Phys != nowhere && o.Phys+o.Len > c.Blocks*c.Pages {
			return false
		}
	}
	return true
}

// do does changes, and tells whether all of them are right for the map. (Nobody
// goes on with one of which a change was not: span's Apply, which leaves such a
// map as it was, would copy it for each record.)
func do(m span.Map, ops []api.Op) bool {
	for _, o := range ops {
		e := api.OK
		if o.Phys == nowhere {
			e = m.Clear(o.Lba, o.Len)
		} else {
			e = m.Set(o.Lba, o.Len, o.Phys)
		}
		if e != api.OK {
			return false
		}
	}
	return true
}

// changes tells runs as changes of a map that maps nothing.
func changes(l []api.Run) []api.Op {
	ops := make([]api.Op, len(l))
	for i, r := range l {
		ops[i] = api.Op(r)
	}
	return ops
}
