// Package value copies and compares what the layers pass to one another, so that results share no memory with arguments.
package value

import (
	"slices"

	"nameplan/api"
)

// List returns a list of copies that a function makes.
func List[T any](l []T, copied func(T) T) []T {
	if len(l) == 0 {
		return nil
	}
	out := make([]T, len(l))
	for i, x := range l {
		out[i] = copied(x)
	}
	return out
}

// Set returns a copy of a set.
func Set(s api.Set) api.Set {
	s.Data = slices.Clone(s.Data)
	return s
}

// Signed returns a copy of a signed set.
func Signed(s api.Signed) api.Signed {
	return api.Signed{Set: Set(s.Set), Sigs: slices.Clone(s.Sigs)}
}

// Signeds returns copies of signed sets.
func Signeds(l []api.Signed) []api.Signed { return List(l, Signed) }

// Zone returns a copy of a zone.
func Zone(z api.Zone) api.Zone { return api.Zone{Apex: z.Apex, Sets: Signeds(z.Sets)} }

// SameSet reports whether two sets are equal.
func SameSet(a, b api.Set) bool {
	return a.Name == b.Name && a.Type == b.Type && a.Life == b.Life && slices.Equal(a.Data, b.Data)
}

// SameSigned reports whether two signed sets are equal.
func SameSigned(a, b api.Signed) bool {
	return SameSet(a.Set, b.Set) && slices.Equal(a.Sigs, b.Sigs)
}

// SameSigneds reports whether two lists of signed sets are equal.
func SameSigneds(a, b []api.Signed) bool { return slices.EqualFunc(a, b, SameSigned) }

// SameZone reports whether two zones are equal.
func SameZone(a, b api.Zone) bool { return a.Apex == b.Apex && SameSigneds(a.Sets, b.Sets) }
