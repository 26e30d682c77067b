package play

import (
	"fmt"
	"slices"
	"strings"
	"testing"

	"ferrule/api"
	"ferrule/script"
)

// small is a Config for paper devices: of it a judge asks Capacity and Spare alone.
var small = api.Config{Capacity: 6, Spare: 2}

// P21.2: a paper device that does not lie: true, also where mounts are cut on the way.
func TestHonestPaper(t *testing.T) {
	cutMounts := 0
	for seed := range 300 {
		l := paperScript(small, seed, 300)
		p := newPaper(small)
		p.done = func(e api.Errno) api.Errno {
			if _, ok := l[p.calls-1].(script.Mount); ok && e == api.EOFF {
				cutMounts++
			}
			return e
		}
		if r, ok := judgeOn(p, small, l); !ok || r != (Report{}) {
			t.Fatalf("P21.2: seed %d: %v, %v; %s", seed, r, ok, tell(l[max(0, r.At-9):min(len(l), r.At+1)]))
		}
		if p.calls != len(l) {
			t.Errorf("P21.2: %d of %d commands were played", p.calls, len(l))
		}
	}
	if cutMounts < 1000 {
		t.Errorf("the tests' scripts have only %d mounts that were cut", cutMounts)
	}
}

// diary is a paper device that keeps what it was told, as commands.
type diary struct {
	*paper
	told []script.Command
}

func (d *diary) Read(lba, n int) (string, api.Errno) {
	d.told = append(d.told, script.Read{Lba: lba, N: n})
	return d.paper.Read(lba, n)
}

func (d *diary) Write(lba, n int, data string) api.Errno {
	d.told = append(d.told, script.Write{Lba: lba, N: n, Data: data})
	return d.paper.Write(lba, n, data)
}

func (d *diary) Trim(lba, n int) api.Errno {
	d.told = append(d.told, script.Trim{Lba: lba, N: n})
	return d.paper.Trim(lba, n)
}

func (d *diary) Mount(cut int) api.Errno {
	d.told = append(d.told, script.Mount{K: cut})
	return d.paper.Mount(cut)
}

func (d *diary) Cut(steps int) {
	d.told = append(d.told, script.Cut{K: steps})
	d.paper.Cut(steps)
}

func (d *diary) Fail(operations int) {
	d.told = append(d.told, script.Fail{K: operations})
	d.paper.Fail(operations)
}

// P21.1, P21.2: Play and Judge tell the device the same commands, with their numbers,
// in their order.
func TestToldAlike(t *testing.T) {
	for seed := range 40 {
		l := newRoller(small, seed, 9).script(200)
		want := calling(slices.Clone(l))
		played, heard := &diary{paper: newPaper(small)}, &diary{paper: newPaper(small)}
		for _, x := range l {
			answer(played, x)
		}
		j, e := newJudge(heard, small)
		if e != api.OK {
			t.Fatalf("P21.2: no judge: %d", e)
		}
		if r, ok := j.hold(l); !ok || !slices.Equal(played.told, want) || !slices.Equal(heard.told, want) {
			t.Errorf("P21.2: seed %d: %v, %v, %d and %d commands of %d", seed, r, ok, len(played.told), len(heard.told), len(want))
		}
	}
}

// twistedReads are what a Read may tell instead of its bytes.
func twistedReads(s string) []string {
	twisted := []string{s + "\x00", s + "x"}
	if s != "" {
		twisted = append(twisted, "", s[1:], s[:len(s)-1])
		for _, place := range []int{0, len(s) / 2, len(s) - 1} {
			twisted = append(twisted, otherByte(s, place))
		}
	}
	return twisted
}

// otherByte tells bytes of which one is another one.
func otherByte(s string, place int) string {
	return s[:place] + string([]byte{s[place] ^ 0x51}) + s[place+1:]
}

// P21.2: one Read lies: a judge tells it there, and `read`.
func TestWrongRead(t *testing.T) {
	told := 0
	for seed := range 40 {
		l := paperScript(small, seed, 60)
		for at, x := range l {
			if _, ok := x.(script.Read); !ok {
				continue
			}
			for v := 0; ; v++ {
				more := false
				p := newPaper(small)
				p.read = func(s string, e api.Errno) (string, api.Errno) {
					if p.calls-1 == at {
						lies := twistedReads(s)
						more = v+1 < len(lies)
						return lies[v], e
					}
					return s, e
				}
				if r, ok := judgeOn(p, small, l); ok || r != (Report{At: at, Why: "read"}) {
					t.Fatalf("P21.2: seed %d: Read %d lies: %v, %v", seed, at, r, ok)
				}
				told++
				if !more {
					break
				}
			}
		}
	}
	if told < 1000 {
		t.Errorf("the tests' scripts have only %d lies", told)
	}
}

// errors are all that may be answered, and some that are none.
func errors() []api.Errno {
	l := []api.Errno{-1, 14, 1 << 40}
	for e := api.OK; e <= api.EDEAD; e++ {
		l = append(l, e)
	}
	return l
}

// P21.2: one call answers another error than it should: a judge tells it there, and
// `error` (of a Read that should have been refused, `read`).
func TestWrongError(t *testing.T) {
	for seed := range 25 {
		l := paperScript(small, 100+seed, 50)
		for at, x := range l {
			want := "error"
			switch x.(type) {
			case script.Cut, script.Fail:
				continue
			}
			for _, lie := range errors() {
				p, lies := newPaper(small), false
				twist := func(e api.Errno) api.Errno {
					// A call that was cut may answer as if it were not.
					if p.calls-1 != at || e == lie || e == api.EOFF && lie == api.OK {
						return e
					}
					lies = true
					return lie
				}
				p.done = twist
				p.read = func(s string, e api.Errno) (string, api.Errno) { return s, twist(e) }
				if _, ok := x.(script.Read); ok && lie == api.OK {
					want = "read"
				} else {
					want = "error"
				}
				r, ok := judgeOn(p, small, l)
				if lies && (ok || r != (Report{At: at, Why: want})) || !lies && (!ok || r != (Report{})) {
					t.Fatalf("P21.2: seed %d: call %d, %T%v, answers %d: %v, %v", seed, at, x, x, lie, r, ok)
				}
			}
		}
	}
}

// P21.2: all that is shown behind a command that was cut is looked at, as soon as the
// power is on: a judge tells another content there, and `content`.
func TestWrongContent(t *testing.T) {
	told := 0
	for seed := range 60 {
		l := paperScript(small, 200+seed, 60)
		looks := 0
		for look := 0; look <= looks; look++ {
			for _, place := range []int{-1, 0, 1, 31, 32, 100, 160, 191} {
				p, at := newPaper(small), -1
				looks = 0
				p.content = func(s string) string {
					looks++
					if looks-1 != look {
						return s
					}
					at = p.calls - 1
					if place < 0 {
						return s + "\x00"
					}
					return otherByte(s, place)
				}
				r, ok := judgeOn(p, small, l)
				if at < 0 && (!ok || r != (Report{})) || at >= 0 && (ok || r != (Report{At: at, Why: "content"})) {
					t.Fatalf("P21.2: seed %d: the content lies behind call %d: %v, %v", seed, at, r, ok)
				}
				if at < 0 {
					break
				}
				if _, ok := l[at].(script.Mount); !ok {
					t.Fatalf("P21.2: seed %d: the content is asked for behind %T", seed, l[at])
				}
				told++
			}
		}
	}
	if told < 1000 {
		t.Errorf("the tests' scripts have only %d lies", told)
	}
}

// judged lets a judge hold a text's commands on a paper device, and tells what it says.
func judged(t *testing.T, p *paper, text string) string {
	t.Helper()
	r, ok := judgeOn(p, small, parse(t, text))
	if ok {
		return strings.TrimSpace("true " + r.Why)
	}
	return fmt.Sprintf("%d %s", r.At, r.Why)
}

// P21.2: behind a cut the judge goes on from what the content is, before or after;
// another command than the one that was cut has no after any more.
func TestGoesOnFromWhatItIs(t *testing.T) {
	before, after := newPaper(small), newPaper(small)
	before.array.Write(1, 1, "old")
	after.array.Write(1, 1, "new")
	for _, x := range []struct {
		shown *paper
		text  string
		want  string
	}{
		// The paper device is cut ahead of its moment: it is what it was.
		{before, `write 1 1 "old"|cut 2|write 1 1 "new"|mount|read 1 1`, "true"},
		{after, `write 1 1 "old"|cut 2|write 1 1 "new"|mount|read 1 1`, "4 read"},
		{after, `write 1 1 "old"|cut 2|write 1 1 "new"|mount|read 0 1|read 2 1|read 1 1`, "6 read"},
		// And here behind it.
		{after, `write 1 1 "old"|cut 3|write 1 1 "new"|mount|read 1 1`, "true"},
		{before, `write 1 1 "old"|cut 3|write 1 1 "new"|mount|read 1 1`, "4 read"},
		{before, `write 1 1 "old"|cut 3|write 1 1 "new"|mount 1|mount 3|mount|read 1 1`, "6 read"},
		{after, `write 1 1 "old"|cut 3|write 1 1 "new"|mount 1|mount 3|mount|read 1 1`, "true"},
		// A mount that is cut keeps both open.
		{before, `write 1 1 "old"|cut 2|write 1 1 "new"|mount 0|mount 2|mount|read 1 1`, "true"},
		{after, `write 1 1 "old"|cut 2|write 1 1 "new"|mount 0|mount 2|mount|read 1 1`, "6 read"},
		// With no other command cut there is no after.
		{after, `write 1 1 "old"|mount 2|mount`, "2 content"},
		{before, `write 1 1 "old"|mount 2|mount|read 1 1`, "true"},
		{after, `write 1 1 "old"|cut 2|mount 0|mount`, "3 content"},
		{before, `write 1 1 "old"|cut 2|write 1 1 "other"|mount|write 1 1 "old"`, "true"},
		{after, `write 1 1 "old"|cut 2|write 1 1 "other"|mount`, "3 content"},
		{before, `write 1 1 "older"|cut 2|write 1 1 "new"|mount`, "3 content"},
		{before, `write 1 1 "old"|write 1 1 "older"|cut 2|write 1 1 "new"|mount`, "4 content"},
		// What is told with the power off is not done.
		{after, `write 1 1 "old"|cut 2|write 1 1 "other"|write 1 1 "new"|mount`, "4 content"},
		{before, `write 1 1 "new"|cut 0|trim 1 1|write 1 1 "old"|mount`, "4 content"},
		// Once it is settled it is settled.
		{after, `write 1 1 "old"|cut 2|write 1 1 "new"|mount|cut 2|trim 0 1|mount`, "true"},
		{before, `write 1 1 "old"|cut 2|write 1 1 "new"|mount|cut 2|write 1 1 "more"|mount`, "true"},
		// With nothing cut the content is not asked for.
		{after, `write 1 1 "old"|mount|mount|read 1 1`, "true"},
		{after, `write 1 1 "old"|cut 2|read 1 1|mount|read 1 1`, "true"},
	} {
		p := newPaper(small)
		shown := x.shown.array.Content()
		p.content = func(string) string { return shown }
		if got := judged(t, p, x.text); got != x.want {
			t.Errorf("P21.2: %s: %s, want %s", x.text, got, x.want)
		}
	}
	// Once before, then after: the second cut begins at what the first one left.
	p, looks := newPaper(small), 0
	p.content = func(string) string {
		looks++
		return []string{after.array.Content(), before.array.Content()}[looks-1]
	}
	if got := judged(t, p, `write 1 1 "old"|cut 2|write 1 1 "new"|mount|cut 2|write 1 1 "other"|mount`); got != "6 content" {
		t.Errorf("P21.2: what was before the first cut is shown behind the second: %s", got)
	}
}

// P21.2: the power is what was told, not what the device says of itself.
func TestPower(t *testing.T) {
	for _, x := range []struct {
		text string
		at   int // the call that answers EOFF though nothing was cut
		want string
	}{
		{`write 0 1 "x"`, 0, "0 error"},
		{`trim 0 1`, 0, "0 error"},
		{`read 0 1`, 0, "0 error"},
		{`mount`, 0, "0 error"},
		{`mount 99|mount|write 0 1 "x"`, 2, "2 error"},
		{`cut 99|cut -1|write 0 1 "x"`, 2, "2 error"},
		{`cut 99|mount|trim 0 1`, 2, "2 error"},
		{`cut 0|write 0 1 "x"|cut 99|mount|read 0 1`, 4, "4 error"},
		// A cut is set here, so it may have come, if the power is off.
		{`cut 99|write 0 1 "x"|read 0 1|mount`, 1, "true"},
		{`mount 99|trim 0 1|read 0 1|mount`, 1, "true"},
		{`mount 99|read 0 1|write 0 1 "x"|mount`, 1, "true"},
		{`mount 99|read 0 1|mount`, 0, "true"},
		// Once it has come there is none.
		{`cut 99|write 0 1 "x"|mount|trim 0 1`, 3, "3 error"},
		{`cut 0|write 0 1 "x"|mount 99|write 0 1 "x"|read 0 1|mount`, 3, "true"},
	} {
		for _, goesOff := range []bool{true, false} {
			p := newPaper(small)
			p.done = func(e api.Errno) api.Errno {
				if p.calls-1 != x.at {
					return e
				}
				p.off = goesOff
				return api.EOFF
			}
			p.read = func(s string, e api.Errno) (string, api.Errno) {
				if e := p.done(e); e != api.OK {
					return "", e
				}
				return s, e
			}
			want := x.want
			if want == "true" && !goesOff {
				want = fmt.Sprintf("%d error", x.at)
			}
			if got := judged(t, p, x.text); got != want {
				t.Errorf("P21.2: %s, the power goes off at %d (%v): %s, want %s", x.text, x.at, goesOff, got, want)
			}
		}
	}
}

// P21.2: once more than Spare blocks are bad nothing is held against anything, from
// the very command on during which it comes to that; up to then all is.
func TestTooManyBad(t *testing.T) {
	const text = `write 0 1 "x"|read 0 1|trim 0 1|cut 0|write 1 1 "y"|mount|read 0 1|write 7 1 ""|mount 9`
	n := strings.Count(text, "|") + 1
	for from := range n {
		for at := range n {
			if at == 3 {
				continue // Cut answers nothing
			}
			for bad := range 5 {
				p := newPaper(small)
				twist := func(e api.Errno) api.Errno {
					if p.calls-1 >= from {
						p.bad = bad
					}
					if p.calls-1 >= at {
						return api.EDEAD
					}
					return e
				}
				p.done = twist
				p.read = func(s string, e api.Errno) (string, api.Errno) { return s, twist(e) }
				want := fmt.Sprintf("%d error", at)
				// The call 3 tells nothing of bad blocks; they come with the next one.
				if bad > small.Spare && from <= at {
					want = "true"
				}
				if got := judged(t, p, text); got != want {
					t.Fatalf("P21.2: %d blocks bad from %d on, EDEAD from %d on: %s, want %s", bad, from, at, got, want)
				}
			}
		}
	}
	for bad := range 5 {
		p := newPaper(small)
		p.content = func(string) string { return "lost" }
		p.bad = bad
		want := "2 content"
		if bad > small.Spare {
			want = "true"
		}
		if got := judged(t, p, `cut 0|trim 0 1|mount`); got != want {
			t.Errorf("P21.2: %d blocks bad, the content is lost: %s, want %s", bad, got, want)
		}
		p = newPaper(small)
		p.bad = bad
		p.read = func(s string, e api.Errno) (string, api.Errno) { return "lost", e }
		if got := judged(t, p, `cut 1|fail 0|read 0 1`); (got == "2 read") == (bad > small.Spare) {
			t.Errorf("P21.2: %d blocks bad, a read is lost: %s", bad, got)
		}
	}
}

// P21.2: At is the first command, of several that are wrong.
func TestFirstOfSeveral(t *testing.T) {
	for seed := range 30 {
		l := paperScript(small, 300+seed, 80)
		r := &dice{uint64(seed)}
		from, first := r.roll(len(l)), -1
		p := newPaper(small)
		p.read = func(s string, e api.Errno) (string, api.Errno) {
			if at := p.calls - 1; at < from {
				return s, e
			} else if first < 0 {
				first = at
			}
			return s + "?", e
		}
		rep, ok := judgeOn(p, small, l)
		if first < 0 && !ok || first >= 0 && (ok || rep != (Report{At: first, Why: "read"})) {
			t.Errorf("P21.2: seed %d: reads lie from %d on: %v, %v", seed, first, rep, ok)
		}
	}
}
