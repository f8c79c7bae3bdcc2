package history

import (
	"testing"

	"pavilion/api"
)

// TestPruneLeavesNoEmptyKeys: which nobody sees, but they would pile up.
func TestPruneLeavesNoEmptyKeys(t *testing.T) {
	h := History{}
	h.Add(1, api.Write{Key: "dead", Value: "x"})
	h.Add(2, api.Write{Key: "dead", Dead: true})
	h.Add(2, api.Write{Key: "there", Value: "x"})
	h.Add(3, api.Write{Key: "later", Dead: true})
	if n := h.Prune(2); n != 2 || len(h) != 2 || h.Count() != 2 {
		t.Errorf("Prune(2) = %d, and leaves %v", n, h)
	}
	if n := h.Prune(3); n != 1 || len(h) != 1 || h.At("there", 2).Value != "x" {
		t.Errorf("Prune(3) = %d, and leaves %v", n, h)
	}
}
