package chart_test

import (
	"slices"
	"testing"

	"ferrule/api"
	"ferrule/chart"
	"ferrule/delta"
	"ferrule/leaf"
)

var _ func(api.Config, []leaf.Stream) (chart.Told, api.Errno) = chart.Read
var _ func(api.Config, []leaf.Stream) []uint32 = chart.Epochs

var config = api.Config{Blocks: 40, Pages: 8, Capacity: 48, Spare: 2, MaxRuns: 48, Window: 8}

func snap(epoch uint32, l ...api.Run) leaf.Stream {
	b, e := delta.Snapshot(l)
	if e != api.OK {
		panic(e)
	}
	return leaf.Stream{Kind: api.Snap, Epoch: epoch, Bytes: b}
}

func log(epoch, group uint32, l ...api.Op) leaf.Stream {
	b, e := delta.Record(l)
	if e != api.OK {
		panic(e)
	}
	return leaf.Stream{Kind: api.Log, Epoch: epoch, Group: group, Bytes: b}
}

// What streams tell: chapter 18, 'On the flash', and P19.2.
func TestRead(t *testing.T) {
	run, last := api.Run{Lba: 2, Len: 3, Phys: 20}, api.Run{Lba: 40, Len: 8, Phys: 312}
	grouped := snap(9)
	grouped.Group = 1
	noRuns := leaf.Stream{Kind: api.Snap, Epoch: 9, Bytes: []byte{1}}
	noRecord := leaf.Stream{Kind: api.Log, Epoch: 5, Group: 1, Bytes: []byte{1}}
	for _, x := range []struct {
		what    string
		l       []leaf.Stream
		want    chart.Told
		epochs  []uint32
		refused api.Errno
	}{
		{"nothing", nil, chart.Told{}, nil, api.ELOST},
		{"a record alone", []leaf.Stream{log(5, 1)}, chart.Told{}, nil, api.ELOST},
		{"no snapshots", []leaf.Stream{grouped, noRuns}, chart.Told{}, nil, api.ELOST},
		{"a snapshot of nothing", []leaf.Stream{snap(0)}, chart.Told{}, []uint32{0}, api.OK},
		{"a snapshot", []leaf.Stream{snap(5, run, last)}, chart.Told{Epoch: 5, Runs: []api.Run{run, last}}, []uint32{5}, api.OK},
		{"the newest one", []leaf.Stream{snap(4, last), snap(5, run), grouped}, chart.Told{Epoch: 5, Runs: []api.Run{run}}, []uint32{4, 5}, api.OK},
		{"one that is too long", []leaf.Stream{snap(4, last), snap(5, api.Run{Lba: 40, Len: 9, Phys: 0})}, chart.Told{Epoch: 4, Runs: []api.Run{last}}, []uint32{4}, api.OK},
		{"one of pages that are not there", []leaf.Stream{snap(4, last), snap(5, api.Run{Lba: 0, Len: 2, Phys: 319})}, chart.Told{Epoch: 4, Runs: []api.Run{last}}, []uint32{4}, api.OK},
		{"records", []leaf.Stream{snap(5, run), noRecord, log(5, 2, api.Op{Lba: 2, Len: 1, Phys: -1}), log(5, 3, api.Op{Lba: 4, Len: 1, Phys: 319}, api.Op{Lba: 9, Len: 1, Phys: 0})},
			chart.Told{Epoch: 5, Records: 2, Runs: []api.Run{{Lba: 3, Len: 1, Phys: 21}, {Lba: 4, Len: 1, Phys: 319}, {Lba: 9, Len: 1, Phys: 0}}}, []uint32{5}, api.OK},
		{"records of others", []leaf.Stream{log(4, 9, api.Op{Lba: 2, Len: 1, Phys: -1}), snap(5, run), log(6, 9, api.Op{Lba: 2, Len: 1, Phys: -1})},
			chart.Told{Epoch: 5, Runs: []api.Run{run}}, []uint32{5}, api.OK},
		{"a page that is not there", []leaf.Stream{snap(5), log(5, 1, api.Op{Lba: 0, Len: 2, Phys: 319})}, chart.Told{}, []uint32{5}, api.EFORM},
		{"a sector that is not there", []leaf.Stream{snap(5), log(5, 1, api.Op{Lba: 47, Len: 2, Phys: 0})}, chart.Told{}, []uint32{5}, api.EFORM},
		{"a sector that is not there goes nowhere", []leaf.Stream{snap(5), log(5, 1, api.Op{Lba: 47, Len: 2, Phys: -1})}, chart.Told{}, []uint32{5}, api.EFORM},
		{"no sector", []leaf.Stream{snap(5), log(5, 1, api.Op{Lba: 4, Len: 0, Phys: -1})}, chart.Told{}, []uint32{5}, api.EFORM},
	} {
		told, e := chart.Read(config, x.l)
		if told.Epoch != x.want.Epoch || told.Records != x.want.Records || !slices.Equal(told.Runs, x.want.Runs) || e != x.refused {
			t.Errorf("P19.2: %s: %v, %d, want %v, %d", x.what, told, e, x.want, x.refused)
		}
		if epochs := chart.Epochs(config, x.l); !slices.Equal(epochs, x.epochs) {
			t.Errorf("P19.3: %s: %v, want %v", x.what, epochs, x.epochs)
		}
	}
}
