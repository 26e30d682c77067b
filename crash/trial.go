package crash

import (
	"ferrule/api"
	"ferrule/dev"
	"ferrule/model"
	"ferrule/script"
)

// noCut is what a mount is handed that no cut comes between.
const noCut = -1

// sectors are what a device and the array have in common.
type sectors interface {
	Write(lba, n int, data string) api.Errno
	Trim(lba, n int) api.Errno
}

// trial is a command that is cut again and again, each time on a new device.
type trial struct {
	config        api.Config
	setup         []script.Command
	last          script.Command
	before, after string // what the array is ahead of the command, and behind it
}

// newTrial is one that may be cut at as many as most steps.
func newTrial(c api.Config, setup []script.Command, last script.Command, most int) (*trial, api.Errno) {
	if len(setup) > api.MaxLines || most < 1 || most > mostSteps {
		return nil, api.EARG
	}
	if _, e := dev.Format(c); e != api.OK {
		return nil, e
	}
	a, e := model.New(c.Capacity)
	if e != api.OK {
		return nil, e
	}
	for _, command := range setup {
		change(a, command)
	}
	t := &trial{config: c, setup: setup, last: last, before: a.Content()}
	change(a, last)
	t.after = a.Content()
	return t, api.OK
}

// ends tells whether the command ends with a cut set to k.
func (t *trial) ends(k int) bool {
	_, ended := t.cut(k)
	return ended
}

// point tells what a mount shows when the command was played with a cut set to k,
// and whether the command ended ahead of the cut.
func (t *trial) point(k int) (int, bool) {
	d, ended := t.cut(k)
	d.Mount(noCut)
	return t.shown(d.Content()), ended
}

// cut plays the command with a cut set to k, on a new device that is set up, and
// tells whether it ended ahead of the cut.
func (t *trial) cut(k int) (*dev.Device, bool) {
	d, _ := dev.Format(t.config) // newTrial has asked whether the Config may be
	for _, c := range t.setup {
		setUp(d, c)
	}
	d.Cut(k)
	return d, change(d, t.last) != api.EOFF
}

// shown tells which of the arrays a device is by what it shows.
func (t *trial) shown(content string) int {
	switch {
	case content == t.before && content == t.after:
		return Same
	case content == t.before:
		return Before
	case content == t.after:
		return After
	}
	return Neither
}

// setUp plays a command that may stand ahead of the one that is cut: no other one does
// anything.
func setUp(d *dev.Device, c script.Command) {
	switch x := c.(type) {
	case script.Read:
		d.Read(x.Lba, x.N)
	case script.Mount:
		if x.K == noCut {
			d.Mount(x.K)
		}
	default:
		change(d, c)
	}
}

// change plays a Write or a Trim: no other command does anything.
func change(s sectors, c script.Command) api.Errno {
	switch x := c.(type) {
	case script.Write:
		return s.Write(x.Lba, x.N, x.Data)
	case script.Trim:
		return s.Trim(x.Lba, x.N)
	}
	return api.OK
}
