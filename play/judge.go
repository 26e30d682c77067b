package play

import (
	"ferrule/api"
	"ferrule/model"
	"ferrule/script"
)

// Why a device is not the array; nothing, if it is.
const (
	wrongRead    = "read"
	wrongContent = "content"
	wrongError   = "error"
	right        = ""
)

// Report is where and why a device is not the array.
type Report struct {
	At  int
	Why string
}

// Judge holds them against the array.
func Judge(c api.Config, l []script.Command) (Report, bool, api.Errno) {
	d, e := newDevice(c, l)
	if e != api.OK {
		return Report{}, false, e
	}
	j, e := newJudge(d, c)
	if e != api.OK {
		return Report{}, false, e
	}
	r, ok := j.hold(l)
	return r, ok, api.OK
}

// judge is a device with an array beside it. What it expects hangs on what the
// device was told and has answered; a device that says of itself that its power is
// off is not believed, unless a cut was set.
type judge struct {
	device device
	spare  int
	array  *model.Array // what the device is
	after  *model.Array // what it may be as well, behind a command that was cut, till the power is on
	on     bool         // is the power on?
	cut    bool         // is a cut set, so that the power may go off?
}

// newJudge is one of a device that is new.
func newJudge(d device, c api.Config) (*judge, api.Errno) {
	a, e := model.New(c.Capacity)
	if e != api.OK {
		return nil, e
	}
	return &judge{device: d, spare: c.Spare, array: a, on: true}, api.OK
}

// hold plays commands till one is not answered as it must be.
func (j *judge) hold(l []script.Command) (Report, bool) {
	for i, c := range l {
		why := j.play(c)
		// More blocks may have become bad by this very command.
		if j.device.Stat().Bad > j.spare {
			break
		}
		if why != right {
			return Report{At: i, Why: why}, false
		}
	}
	return Report{}, true
}

// play plays a command, and tells why what the device does is wrong, if it is.
func (j *judge) play(c script.Command) string {
	switch x := c.(type) {
	case script.Read:
		return j.read(x.Lba, x.N)
	case script.Write:
		return j.change(func(s sectors) api.Errno { return s.Write(x.Lba, x.N, x.Data) })
	case script.Trim:
		return j.change(func(s sectors) api.Errno { return s.Trim(x.Lba, x.N) })
	case script.Mount:
		return j.mount(x.K)
	case script.Cut:
		j.device.Cut(x.K)
		j.cut = x.K >= 0
	case script.Fail:
		j.device.Fail(x.K)
	}
	return right
}

// read holds a Read against the array's.
func (j *judge) read(lba, n int) string {
	want, due := j.array.Read(lba, n)
	if due == api.OK && !j.on {
		want, due = "", api.EOFF
	}
	s, e := j.device.Read(lba, n)
	switch {
	case e == due && s == want:
		return right
	case j.wasCut(e, due):
		j.goOff(j.array)
		return right
	case e == due || e == api.OK:
		return wrongRead
	}
	return wrongError
}

// change does a Write or a Trim on the device, and on a copy of the array, which
// the array becomes if it is done.
func (j *judge) change(call func(s sectors) api.Errno) string {
	after := j.array.Copy()
	due := call(after)
	if due == api.OK && !j.on {
		due = api.EOFF
	}
	e := call(j.device)
	switch {
	case e == due && e == api.OK:
		j.array = after
		return right
	case e == due:
		return right
	case j.wasCut(e, due):
		j.goOff(after)
		return right
	}
	return wrongError
}

// mount holds a Mount, and what the device shows behind it.
func (j *judge) mount(cut int) string {
	e := j.device.Mount(cut)
	j.cut = cut >= 0
	switch {
	case e == api.OK:
		j.on = true
		return j.settle()
	case j.wasCut(e, api.OK):
		j.goOff(j.array)
		return right
	}
	return wrongError
}

// wasCut tells whether a call that should have ended as is due may have been cut.
func (j *judge) wasCut(e, due api.Errno) bool {
	return due == api.OK && e == api.EOFF && j.cut && !j.device.Power()
}

// goOff says that the power has gone off during a call that makes the array after.
func (j *judge) goOff(after *model.Array) {
	j.on = false
	// A mount that is cut leaves open what the command ahead of it has left open.
	if j.after == nil {
		j.after = after
	}
}

// settle finds which of both the device is, behind a command that was cut.
func (j *judge) settle() string {
	if j.after == nil {
		return right
	}
	switch j.device.Content() {
	case j.array.Content():
		// The command was not.
	case j.after.Content():
		j.array = j.after
	default:
		return wrongContent
	}
	j.after = nil
	return right
}
