package zig

import (
	"testing"

	"wringer/api"
)

// The chapter's way: the steps take what is done to a number as a method value.
func TestStepsTakeMethodValues(t *testing.T) {
	if u := told(number(-3).fold); u != 5 {
		t.Error("fold:", u)
	}
	if v := told(folded(5).unfold); v != -3 {
		t.Error("unfold:", v)
	}
	if p := sized(number(-3).fold); p != (api.Part{Class: 3, Rest: 1}) {
		t.Error("sized:", p)
	}
	if v, ok := numbered(part{Class: 3, Rest: 1}.fold); !ok || v != -3 {
		t.Error("numbered:", v, ok)
	}
	if v, ok := numbered(part{Class: 3, Rest: 4}.fold); ok || v != 0 {
		t.Error("numbered of none:", v, ok)
	}
}
