package shell

import (
	"testing"

	"ferrule/api"
	"ferrule/play"
)

// P22.1: the two last lines, of a device that is right, and of ones that are not (none
// that the program has is such).
func TestLastLines(t *testing.T) {
	for _, x := range []struct {
		r    play.Report
		ok   bool
		want string
	}{
		{play.Report{}, true, "judge ok"},
		{play.Report{At: 0, Why: "read"}, false, "judge 0 read"},
		{play.Report{At: 1, Why: "content"}, false, "judge 1 content"},
		{play.Report{At: 998, Why: "error"}, false, "judge 998 error"},
	} {
		if s := judgeLine(x.r, x.ok); s != x.want {
			t.Errorf("P22.1: %v, %v: %q, want %q", x.r, x.ok, s, x.want)
		}
	}
	for at, want := range map[int]string{-1: "both ok", 0: "both 0", 1: "both 1", 998: "both 998"} {
		if s := bothLine(at); s != want {
			t.Errorf("P22.1: Both %d: %q, want %q", at, s, want)
		}
	}
}

// P22.1: which number is which, and which kind of device it is (what is said does not
// tell the two kinds apart).
func TestConfigOfALine(t *testing.T) {
	want := api.Config{Blocks: 1, Pages: 20, Capacity: -3, Spare: 999999999, MaxRuns: 5, Window: 0}
	if c, ok := config("\tdevice 1 0020 -3 999999999 5  -0 "); c != want || !ok {
		t.Errorf("P22.1: %v, %v", c, ok)
	}
	want.Flat = true
	if c, ok := config("device 1 20 -3 999999999 5 0\t flat"); c != want || !ok {
		t.Errorf("P22.1: flat: %v, %v", c, ok)
	}
	for _, line := range []string{"", "flat", "device", "device 1 20 -3 999999999 5", "device 1 20 -3 999999999 5 flat", "device 1 20 -3 999999999 5 6 7", "device 1 20 -3 999999999 5 x", "device 1 20 -3 999999999 5 6 flat flat"} {
		if c, ok := config(line); c != (api.Config{}) || ok {
			t.Errorf("P22.1: %q: %v, %v", line, c, ok)
		}
	}
}
