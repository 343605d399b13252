package editor

import (
	"os"
	"runtime/debug"
	"testing"
)

// Each script has editors of its own, which are garbage soon: most of the time would
// go into collecting it.
func TestMain(m *testing.M) {
	debug.SetGCPercent(1000)
	os.Exit(m.Run())
}
