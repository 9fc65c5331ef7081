// Package value copies and compares what the layers pass to one another, so that results share no memory with arguments.
package value

import (
	"slices"
	"strconv"

	"nameplan/api"
)

// List returns a list of copies that a function makes.
func List[T any](l []T, copied func(T) T) []T {
	if len(l) == 0 {
		return nil
	}
	out := make([]T, len(l))
	for i, x := range l {
		out[i] = copied(x)
	}
	return out
}

// Set returns a copy of a set.
func Set(s api.Set) api.Set {
	s.Data = slices.Clone(s.Data)
	return s
}

// Signed returns a copy of a signed set.
func Signed(s api.Signed) api.Signed {
	return api.Signed{Set: Set(s.Set), Sigs: slices.Clone(s.Sigs)}
}

// Signeds returns copies of signed sets.
func Signeds(l []api.Signed) []api.Signed { return List(l, Signed) }

// Zone returns a copy of a zone.
func Zone(z api.Zone) api.Zone { return api.Zone{Apex: z.Apex, Sets: Signeds(z.Sets)} }

// SameSet reports whether two sets are equal.
func SameSet(a, b api.Set) bool {
	return a.Name == b.Name && a.Type == b.Type && a.Life == b.Life && slices.Equal(a.Data, b.Data)
}

// SameSigned reports whether two signed sets are equal.
func SameSigned(a, b api.Signed) bool {
	return SameSet(a.Set, b.Set) && slices.Equal(a.Sigs, b.Sigs)
}

// SameSigneds reports whether two lists of signed sets are equal.
func SameSigneds(a, b []api.Signed) bool { return slices.EqualFunc(a, b, SameSigned) }

// SameZone reports whether two zones are equal.
func SameZone(a, b api.Zone) bool { return a.Apex == b.Apex && SameSigneds(a.Sets, b.Sets) }

// Key returns a text that tells a valid signed set from all others.
func Key(s api.Signed) string {
	b := make([]byte, 0, 96)
	number := func(l ...int) {
		for _, n := range l {
			b = append(strconv.AppendInt(b, int64(n), 36), '/')
		}
	}
	b = append(append(b, s.Set.Name...), '/')
	number(s.Set.Type, s.Set.Life)
	for _, d := range s.Set.Data {
		b = append(append(b, d.Text...), '/')
		number(d.N, d.M)
	}
	for _, g := range s.Sigs {
		b = append(append(append(b, '!'), g.Zone...), '/')
		number(g.Key, g.Alg, g.From, g.Until)
		b = append(strconv.AppendUint(b, g.Sum, 36), '/')
	}
	return string(b)
}

// Placed returns a copy of a zone that a host serves.
func Placed(p api.Placed) api.Placed { return api.Placed{Host: p.Host, Zone: Zone(p.Zone)} }

// Copied returns a copy of a version that a host serves for a while.
func Copied(c api.Copy) api.Copy {
	c.Zone = Zone(c.Zone)
	return c
}

// Answer returns a copy of an answer.
func Answer(a api.Answer) api.Answer {
	a.Sets = Signeds(a.Sets)
	return a
}

// SameAnswer reports whether two answers are equal.
func SameAnswer(a, b api.Answer) bool {
	return a.Kind == b.Kind && a.Cut == b.Cut && SameSigneds(a.Sets, b.Sets)
}

// Stage returns a copy of a stage.
func Stage(s api.Stage) api.Stage { return api.Stage{Puts: List(s.Puts, Placed)} }

// Step returns a copy of a step.
func Step(s api.Step) api.Step { return api.Step{At: s.At, Stage: Stage(s.Stage)} }

// Steps returns copies of steps.
func Steps(l []api.Step) []api.Step { return List(l, Step) }
