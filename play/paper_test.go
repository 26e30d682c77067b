package play

import (
	"bytes"
	"slices"

	"ferrule/api"
	"ferrule/dev"
	"ferrule/model"
	"ferrule/script"
)

// The steps of a paper device's calls: a change is done once so many of them are.
const (
	changeSteps = 5
	changeDone  = 3
	mountSteps  = 4
)

// paper is a device without a flash: an array that changes whole, and the mounts of
// which do steps, too. It does what chapter 18 says, but for what the hooks twist.
type paper struct {
	array *model.Array
	off   bool
	cut   int // steps till the cut, -1: none
	bad   int
	calls int // how many of Read, Write, Trim, Mount, Cut, Fail were called

	read    func(s string, e api.Errno) (string, api.Errno)
	done    func(e api.Errno) api.Errno
	content func(s string) string
	runs    func(l []api.Run) []api.Run
	image   func(b []byte) []byte
}

func newPaper(c api.Config) *paper {
	a, _ := model.New(c.Capacity)
	return &paper{array: a, cut: -1}
}

// steps does so many, or those ahead of a cut, and tells how many it did.
func (p *paper) steps(n int) int {
	for i := range n {
		if p.cut == 0 {
			p.off, p.cut = true, -1
			return i
		}
		p.cut = max(p.cut-1, -1)
	}
	return n
}

func (p *paper) change(call func(a *model.Array) api.Errno) api.Errno {
	after := p.array.Copy()
	e := call(after)
	if e == api.OK && p.off {
		e = api.EOFF
	}
	if e == api.OK {
		n := p.steps(changeSteps)
		if n >= changeDone {
			p.array = after
		}
		if n < changeSteps {
			e = api.EOFF
		}
	}
	return p.ended(e)
}

// ended counts a call, and twists how it ended.
func (p *paper) ended(e api.Errno) api.Errno {
	p.calls++
	if p.done != nil {
		return p.done(e)
	}
	return e
}

func (p *paper) Read(lba, n int) (string, api.Errno) {
	s, e := p.array.Read(lba, n)
	if e == api.OK && p.off {
		s, e = "", api.EOFF
	}
	p.calls++
	if p.read != nil {
		return p.read(s, e)
	}
	return s, e
}

func (p *paper) Write(lba, n int, data string) api.Errno {
	return p.change(func(a *model.Array) api.Errno { return a.Write(lba, n, data) })
}

func (p *paper) Trim(lba, n int) api.Errno {
	return p.change(func(a *model.Array) api.Errno { return a.Trim(lba, n) })
}

func (p *paper) Mount(cut int) api.Errno {
	p.off, p.cut = false, max(cut, -1)
	if p.steps(mountSteps) < mountSteps {
		return p.ended(api.EOFF)
	}
	return p.ended(api.OK)
}

func (p *paper) Cut(steps int) { p.calls, p.cut = p.calls+1, max(steps, -1) }

func (p *paper) Fail(int) { p.calls++ }

func (p *paper) Power() bool { return !p.off }

func (p *paper) Content() string {
	s := p.array.Content()
	if p.off {
		s = ""
	}
	if p.content != nil {
		return p.content(s)
	}
	return s
}

func (p *paper) Runs() []api.Run {
	l := []api.Run{{Lba: 2, Len: 3, Phys: 40}, {Lba: 7, Len: 1, Phys: 9}}
	if p.runs != nil {
		return p.runs(l)
	}
	return l
}

func (p *paper) Stat() dev.Stat { return dev.Stat{Reads: 91, Programs: 92, Erases: 93, Bad: p.bad} }

func (p *paper) Image() []byte {
	b := bytes.Clone([]byte(p.array.Content()))
	if p.image != nil {
		return p.image(b)
	}
	return b
}

// judgeOn lets a judge hold commands on a paper device.
func judgeOn(p *paper, c api.Config, l []script.Command) (Report, bool) {
	j, e := newJudge(p, c)
	if e != api.OK {
		return Report{At: -1, Why: "no judge"}, false
	}
	return j.hold(l)
}

// calling are the commands that are one call each, so that the number of a call is
// that of its command.
func calling(l []script.Command) []script.Command {
	return slices.DeleteFunc(l, func(c script.Command) bool {
		switch c.(type) {
		case script.Read, script.Write, script.Trim, script.Mount, script.Cut, script.Fail:
			return false
		}
		return true
	})
}

// paperScript rolls commands that are one call each, with cuts of few steps.
func paperScript(c api.Config, seed, n int) []script.Command {
	r := newRoller(c, seed, 0)
	l := calling(r.script(n))
	for i, x := range l {
		switch x := x.(type) {
		case script.Cut:
			l[i] = script.Cut{K: x.K % 9}
		case script.Mount:
			l[i] = script.Mount{K: x.K % 9}
		}
		if r.roll(9) == 0 {
			l[i] = script.Mount{K: r.roll(12) - 3}
		}
	}
	return l
}
