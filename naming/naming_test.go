package naming_test

import (
	"maps"
	"testing"

	"savant/naming"
)

func TestSet(t *testing.T) {
	got := naming.Set([]string{"a", "b"}, nil, []string{"b", ""})
	if !maps.Equal(got, map[string]struct{}{"a": {}, "b": {}, "": {}}) || len(naming.Set()) != 0 {
		t.Error(got)
	}
}

// New names come in order, each once; what is taken later is passed over too.
func TestNew(t *testing.T) {
	taken := naming.Set([]string{"x0", "x2", "x3", "y1", "x01"})
	next := naming.New("x", taken)
	for _, want := range []string{"x1", "x4"} {
		if got := next(); got != want {
			t.Errorf("%s, not %s", got, want)
		}
	}
	taken["x5"] = struct{}{}
	if got := next(); got != "x6" {
		t.Error(got)
	}
	if got := naming.New("y", taken)(); got != "y0" {
		t.Error(got)
	}
}

// What is covered comes back as it was, whether there was something or not.
func TestCover(t *testing.T) {
	stands := map[string]int{"a": 1}
	outer := naming.Cover(stands, "b", 2)
	middle := naming.Cover(stands, "a", 3)
	inner := naming.Cover(stands, "a", 0)
	if !maps.Equal(stands, map[string]int{"a": 0, "b": 2}) {
		t.Error(stands)
	}
	inner()
	if !maps.Equal(stands, map[string]int{"a": 3, "b": 2}) {
		t.Error(stands)
	}
	middle()
	outer()
	if !maps.Equal(stands, map[string]int{"a": 1}) {
		t.Error(stands)
	}
}
