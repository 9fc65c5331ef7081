package stretch_test

import (
	"slices"
	"testing"

	"nameplan/api"
	"nameplan/stretch"
)

// Unions of many lists, and what lies between times.
func TestStretches(t *testing.T) {
	var lists [][]api.Span
	for i := range 30000 {
		lists = append(lists, []api.Span{{From: i % 17, Until: i%17 + 1}})
	}
	if l := stretch.Union(lists...); !slices.Equal(l, stretch.Between(0, 17)) {
		t.Error(l)
	}
	if l := stretch.Between(3, 3); len(l) > 0 {
		t.Error(l)
	}
	l := stretch.Union(stretch.Between(0, 3), stretch.Between(5, 9))
	if !slices.Equal(stretch.From(l, 6), stretch.Between(6, 9)) || !slices.Equal(stretch.Cross(l, stretch.Between(2, 6)), []api.Span{{From: 2, Until: 3}, {From: 5, Until: 6}}) || !slices.Equal(stretch.Minus(l, stretch.Between(2, 6)), []api.Span{{From: 0, Until: 2}, {From: 6, Until: 9}}) {
		t.Error(l)
	}
}
