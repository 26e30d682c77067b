package dev_test

import (
	"slices"
	"sync"
	"testing"

	"ferrule/api"
	"ferrule/dev"
	"ferrule/model"
)

// moment is a device ahead of a command in which something happens.
type moment struct {
	what   string
	config api.Config
	img    []byte
	array  *model.Array
	next   command
	then   []command // what may come behind it
}

// resume makes a rig at the moment.
func (m moment) resume(t *testing.T) *rig {
	t.Helper()
	r := resume(t, m.config, m.img, m.array)
	r.say("%s: %v", m.what, m.config)
	return r
}

// go on plays what may come behind the moment's command.
func (m moment) goOn(r *rig) {
	r.t.Helper()
	for _, c := range m.then {
		if e := r.play(c); e != api.OK {
			r.fatal("T1, T5: what comes then: %d", e)
		}
	}
	r.check()
}

// whatWas tells what a command did, by Work: the more the rarer.
func whatWas(was, now dev.Work, c command) string {
	what := "write"
	if c.trim {
		what = "trim"
	}
	if now.Snapshots > was.Snapshots {
		what += " snapshot"
	}
	if now.Collections > was.Collections {
		what += " collection"
	}
	if now.Collections > was.Collections+1 {
		what += "s"
	}
	if now.Rewrites > was.Rewrites {
		what += " rewrite"
	}
	return what
}

// momentsOf keeps the moments of each Config: several tests go through them.
var momentsOf sync.Map

// moments tells one moment of each kind that comes in a Config. What must come is
// missed, if it does not.
func moments(t *testing.T, c api.Config, must ...string) []moment {
	t.Helper()
	x, ok := momentsOf.Load(c)
	if !ok {
		x = findMoments(t, c, 1200)
		momentsOf.Store(c, x)
	}
	l := x.([]moment)
	for _, what := range must {
		if !slices.ContainsFunc(l, func(m moment) bool { return m.what == what }) {
			t.Errorf("%v: no %s came", c, what)
		}
	}
	return l
}

// findMoments plays scripts, mood by mood, till each kind has come that comes.
func findMoments(t *testing.T, c api.Config, steps int) []moment {
	t.Helper()
	found := map[string]int{}
	var l []moment
	for mood := range moods {
		d := format(t, c)
		array, _ := model.New(c.Capacity)
		s := newScript(c, 7+mood, 3)
		s.change(mood)
		for range steps {
			m := moment{config: c, img: d.Image(), array: array.Copy()}
			if s.left == 0 {
				// Behind cold ones many blocks must be collected for it at once.
				m.next = command{lba: 0, n: (c.Capacity + 1) / 2, data: s.data((c.Capacity + 1) / 2)}
				s.change(mood)
			} else {
				m.next = s.next()
			}
			was := d.Work()
			if m.next.trim {
				d.Trim(m.next.lba, m.next.n)
				array.Trim(m.next.lba, m.next.n)
			} else {
				d.Write(m.next.lba, m.next.n, m.next.data)
				array.Write(m.next.lba, m.next.n, m.next.data)
			}
			m.what = whatWas(was, d.Work(), m.next)
			if found[m.what]++; found[m.what] == 1 {
				m.then = []command{s.next(), s.next(), {lba: 0, n: c.Capacity, data: "end"}, s.next()}
				l = append(l, m)
			}
		}
	}
	return l
}
