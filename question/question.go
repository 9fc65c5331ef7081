// Package question says which questions are valid.
package question

import (
	"slices"

	"nameplan/api"
	"nameplan/name"
)

// Valid reports whether a question is valid.
func Valid(q api.Question) bool {
	return q.Type >= 1 && q.Type <= api.Types && name.Valid(q.Name)
}

// Protected reports whether questions may be protected: they are not too many, and all valid.
func Protected(l []api.Question) bool {
	return len(l) <= api.MaxAsked && !slices.ContainsFunc(l, func(q api.Question) bool { return !Valid(q) })
}
