package keys

import (
	"strings"
	"testing"
)

func TestIsKey(t *testing.T) {
	for size, want := range map[int]bool{0: false, 1: true, 8: true, 9: false, 256: false, 257: false} {
		if got := IsKey(strings.Repeat("\xff", size)); got != want {
			t.Errorf("IsKey of %d bytes = %v, want %v", size, got, want)
		}
	}
}

func TestIsValue(t *testing.T) {
	for size, want := range map[int]bool{0: true, 1: true, 16: true, 17: false, 256: false} {
		if got := IsValue(strings.Repeat("\x00", size)); got != want {
			t.Errorf("IsValue of %d bytes = %v, want %v", size, got, want)
		}
	}
}
