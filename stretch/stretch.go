// Package stretch computes with valid stretches, of any number of lists.
package stretch

import (
	"nameplan/api"
	"nameplan/span"
)

// most is how many stretches are put together at once.
const most = 10000

// Union returns the times of all lists.
func Union(lists ...[]api.Span) []api.Span {
	var out []api.Span
	for _, l := range lists {
		if len(out)+len(l) > most {
			out, _ = span.Normal(out)
		}
		out = append(out, l...)
	}
	out, _ = span.Normal(out)
	return out
}

// Cross returns the times that both lists have.
func Cross(a, b []api.Span) []api.Span {
	out, _ := span.Cross(a, b)
	return out
}

// Minus returns the times that the first list has, but not the second one.
func Minus(a, b []api.Span) []api.Span {
	out, _ := span.Minus(a, b)
	return out
}

// Between returns the times from one time to before another one.
func Between(from, until int) []api.Span {
	if from >= until {
		return nil
	}
	return []api.Span{{From: from, Until: until}}
}

// From returns the times of a list from a time on.
func From(l []api.Span, from int) []api.Span {
	return Cross(l, Between(from, 2*api.MaxTime))
}
