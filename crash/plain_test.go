package crash

import (
	"testing"

	"ferrule/api"
	"ferrule/dev"
	"ferrule/model"
	"ferrule/script"
)

// bench is a device with an array beside it, both told the same, by their own calls.
type bench struct {
	device *dev.Device
	array  *model.Array
}

func newBench(t *testing.T, c api.Config) *bench {
	t.Helper()
	d, e := dev.Format(c)
	if e != api.OK {
		t.Fatalf("the tests' own Config: %v", c)
	}
	a, _ := model.New(c.Capacity)
	return &bench{d, a}
}

// setUp plays the commands of chapter 23's that stand ahead.
func (b *bench) setUp(l []script.Command) {
	for _, c := range l {
		if x, ok := c.(script.Read); ok {
			b.device.Read(x.Lba, x.N)
		}
		if x, ok := c.(script.Mount); ok && x.K == -1 {
			b.device.Mount(-1)
		}
		b.change(c)
	}
}

// change plays a Write or a Trim, and tells the device's answer; nothing else is played.
func (b *bench) change(c script.Command) api.Errno {
	if x, ok := c.(script.Write); ok {
		b.array.Write(x.Lba, x.N, x.Data)
		return b.device.Write(x.Lba, x.N, x.Data)
	}
	if x, ok := c.(script.Trim); ok {
		b.array.Trim(x.Lba, x.N)
		return b.device.Trim(x.Lba, x.N)
	}
	return api.OK
}

// steps tells how many steps the flash has done, if no operation has failed or was
// cut: chapter 2's seventeen chunks of a page, and two halves of an erase.
func (b *bench) steps() int {
	s := b.device.Stat()
	return 17*s.Programs + 2*s.Erases
}

// is tells whether the device shows an array, sector by sector.
func (b *bench) is(t *testing.T, a *model.Array) bool {
	for lba := range b.device.Config().Capacity {
		want, _ := a.Read(lba, 1)
		got, e := b.device.Read(lba, 1)
		if e != api.OK {
			t.Fatalf("P18.2: Read(%d, 1): %d", lba, e)
		}
		if got != want {
			return false
		}
	}
	return true
}

// plainPoint cuts a command at one step, and tells what is seen by the chapter's words.
func plainPoint(t *testing.T, c api.Config, setup []script.Command, last script.Command, k int) (point int, off bool) {
	t.Helper()
	b := newBench(t, c)
	b.setUp(setup)
	before := b.array.Copy()
	b.device.Cut(k)
	e := b.change(last)
	if b.device.Power() != (e != api.EOFF) {
		t.Fatalf("P18.4: the power is %v behind an answer %d", b.device.Power(), e)
	}
	if e := b.device.Mount(-1); e != api.OK {
		t.Fatalf("P18.3: Mount(-1): %d", e)
	}
	was, is := b.is(t, before), b.is(t, b.array)
	switch {
	case was && is:
		return 3, e == api.EOFF
	case was:
		return 1, e == api.EOFF
	case is:
		return 2, e == api.EOFF
	}
	return 4, e == api.EOFF
}

// plainPoints cuts a command at as many steps as are asked for.
func plainPoints(t *testing.T, c api.Config, setup []script.Command, last script.Command, from, most int) (points []int, ended bool) {
	t.Helper()
	for k := from; len(points) < most && !ended; k++ {
		p, off := plainPoint(t, c, setup, last, k)
		points, ended = append(points, p), !off
	}
	return points, ended
}

// plainSteps counts a command's steps with no cut.
func plainSteps(t *testing.T, c api.Config, setup []script.Command, last script.Command) int {
	t.Helper()
	b := newBench(t, c)
	b.setUp(setup)
	was := b.steps()
	b.change(last)
	return b.steps() - was
}

// plainMoment looks for the split at which all points ahead are Before and all others
// After.
func plainMoment(points []int) (int, bool) {
	all := func(l []int, p int) bool {
		for _, x := range l {
			if x != p {
				return false
			}
		}
		return true
	}
	if len(points) > 0 && all(points, 3) {
		return 0, true
	}
	for k := range len(points) + 1 {
		if all(points[:k], 1) && all(points[k:], 2) {
			return k, true
		}
	}
	return 0, false
}
