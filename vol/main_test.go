package vol

import (
	"os"
	"runtime/debug"
	"testing"
)

// The tests make many devices that live for a moment: what is collected seldom is
// collected sooner.
func TestMain(m *testing.M) {
	debug.SetGCPercent(800)
	os.Exit(m.Run())
}
