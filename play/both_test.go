package play

import (
	"slices"
	"testing"

	"ferrule/api"
	"ferrule/dev"
	"ferrule/script"
	"ferrule/span"
)

// P21.3: two paper devices that are alike, also with the power off, and strangers.
func TestAlike(t *testing.T) {
	for seed := range 50 {
		l := newRoller(small, seed, 2).script(200)
		if n := firstUnlike(newPaper(small), newPaper(small), l); n != -1 {
			t.Fatalf("P21.3: seed %d: %d", seed, n)
		}
	}
	if n := firstUnlike(newPaper(small), newPaper(small), nil); n != -1 {
		t.Errorf("P21.3: no command: %d", n)
	}
}

// P21.3: one of two devices answers one command otherwise, or its flash is another
// one behind it: that is the number. The commands behind it make no difference.
func TestUnlike(t *testing.T) {
	l := parse(t, `write 0 1 "ab"|read 0 1|trim 1 1|mount|show|stat|cut 1|read 0 2|write 0 1 "cd"|show|read 0 1|mount`)
	l = append(l, nil, script.Read{N: 1})
	for at, x := range l {
		lies := map[string]func(p *paper){
			"image":  func(p *paper) { p.image = func(b []byte) []byte { return append(b, 0) } },
			"bytes":  func(p *paper) { p.image = func(b []byte) []byte { b[len(b)-1] ^= 1; return b } },
			"shrunk": func(p *paper) { p.image = func(b []byte) []byte { return b[1:] } },
		}
		switch x.(type) {
		case script.Read:
			lies["read"] = func(p *paper) {
				p.read = func(s string, e api.Errno) (string, api.Errno) { return s + "x", api.OK }
			}
			lies["read error"] = func(p *paper) {
				p.read = func(s string, e api.Errno) (string, api.Errno) { return s, e + 1 }
			}
		case script.Write, script.Trim, script.Mount:
			lies["error"] = func(p *paper) { p.done = func(e api.Errno) api.Errno { return e + 1 } }
		case script.Show:
			lies["power"] = func(p *paper) { p.off = !p.off }
			if at == 4 {
				lies["runs"] = func(p *paper) { p.runs = func(l []api.Run) []api.Run { return l[1:] } }
				lies["lba"] = func(p *paper) { p.runs = func(l []api.Run) []api.Run { l[1].Lba++; return l } }
				lies["len"] = func(p *paper) { p.runs = func(l []api.Run) []api.Run { l[0].Len++; return l } }
			}
		case script.Stat:
			lies["power"] = func(p *paper) { p.off = !p.off }
			lies["bad"] = func(p *paper) { p.bad++ }
			lies["count"] = func(p *paper) { p.runs = func(l []api.Run) []api.Run { return l[1:] } }
		}
		for what, lie := range lies {
			for _, first := range []bool{true, false} {
				a, b := newPaper(small), newPaper(small)
				n := 0
				if first {
					n = firstUnlike(newSwitching(a, at, lie), b, l)
				} else {
					n = firstUnlike(a, newSwitching(b, at, lie), l)
				}
				if n != at {
					t.Errorf("P21.3: %s lies at %d (%T): %d", what, at, x, n)
				}
			}
		}
	}
}

// switching is a paper device that begins to lie so many commands on. It counts them
// by its images: firstUnlike asks for one behind each command.
type switching struct {
	*paper
	left int
	lie  func(p *paper)
}

func newSwitching(p *paper, at int, lie func(p *paper)) *switching {
	if at == 0 {
		lie(p)
	}
	return &switching{paper: p, left: at, lie: lie}
}

func (s *switching) Image() []byte {
	b := s.paper.Image()
	if s.left--; s.left == 0 {
		s.lie(s.paper)
	}
	return b
}

// P21.3: what both devices answer is told as Play tells it: bytes 0 at the end of what
// was read, and where runs stand, make no difference.
func TestAsPlayTells(t *testing.T) {
	a, b := newPaper(small), newPaper(small)
	b.read = func(s string, e api.Errno) (string, api.Errno) { return s + "\x00", e }
	b.runs = func(l []api.Run) []api.Run { l[0].Phys++; return l }
	b.image = slices.Clone[[]byte]
	if n := firstUnlike(a, b, parse(t, `write 0 1 "ab"|read 0 1|read 3 1|read 9 1|show|stat`)); n != -1 {
		t.Errorf("P21.3: %d", n)
	}
}

// P21.3: it is the device on runs and the one on the flat table, whatever Flat says.
func TestTwoKinds(t *testing.T) {
	for _, c := range append(configs(), great()...) {
		for _, c := range []api.Config{c, flat(c)} {
			runs, table, e := twoDevices(c, nil)
			if e != api.OK || runs.Config().Flat || span.Kind(runs.Map()) != "runs" || table.Config() != flat(c) || span.Kind(table.Map()) != "flat" {
				t.Errorf("P21.3: %s: %d", name(c), e)
			}
			// Play and Judge take the kind that the Config says.
			if d, e := newDevice(c, nil); e != api.OK || d.Config() != c {
				t.Errorf("P21.1: %s: %d", name(c), e)
			}
		}
	}
}

// P21.3, T2: both kinds played apart, their flash looked at behind each command.
func TestBothKinds(t *testing.T) {
	for i, c := range configs() {
		l := newRoller(c, 500+i, c.Spare).script(250)
		runs, _ := dev.Format(c)
		table, _ := dev.Format(flat(c))
		for k, x := range l {
			if plainLine(runs, x) != plainLine(table, x) || !slices.Equal(runs.Image(), table.Image()) {
				t.Fatalf("T2: %s: command %d", name(c), k)
			}
		}
		for _, c := range []api.Config{c, flat(c)} {
			if n, e := Both(c, l); n != -1 || e != api.OK {
				t.Errorf("P21.3: %s: %d, %d", name(c), n, e)
			}
		}
	}
}
