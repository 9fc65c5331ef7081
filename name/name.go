// Package name is layer 1: see shared/doc/01-name.md.
package name

import (
	"iter"
	"strings"

	"nameplan/api"
)

const root = text(".")

// text is a name, or what may be one.
type text string

// Valid reports whether a text is a name.
func Valid(s string) bool { return text(s).valid() }

// Labels returns the labels of a name, the first one first.
func Labels(s string) ([]string, api.Errno) {
	if !Valid(s) {
		return nil, api.ErrName
	}
	list, from := split(text(s).fromLast)
	out := make([]string, 0, api.MaxDepth)
	out = append(out, list[from:]...)
	// The capacity ends with the labels: what a caller appends has a place of its own.
	return out[:len(out):len(out)], api.OK
}

// Join returns the name with some labels.
func Join(l []string) (string, api.Errno) {
	if len(l) == 0 {
		return string(root), api.OK
	}
	if len(l) > api.MaxDepth {
		return "", api.ErrName
	}
	for i, s := range l {
		if !label(text(s), i == 0) {
			return "", api.ErrName
		}
	}
	s := strings.Join(l, ".")
	if !Valid(s) {
		return "", api.ErrName
	}
	return s, api.OK
}

// Parent returns the name without its first label.
func Parent(s string) (string, api.Errno) {
	switch {
	case !Valid(s):
		return "", api.ErrName
	case text(s) == root:
		return "", api.ErrNone
	}
	return string(text(s).parent()), api.OK
}

// Under reports whether a name is another one, or below it.
func Under(s, zone string) (bool, api.Errno) {
	if !Valid(s) || !Valid(zone) {
		return false, api.ErrName
	}
	return text(s).under(text(zone)), api.OK
}

// Compare compares two names in the canonical order.
func Compare(a, b string) (int, api.Errno) {
	if !Valid(a) || !Valid(b) {
		return 0, api.ErrName
	}
	return text(a).compare(text(b)), api.OK
}

// Common returns the longest name that both names are under.
func Common(a, b string) (string, api.Errno) {
	if !Valid(a) || !Valid(b) {
		return "", api.ErrName
	}
	c := text(a)
	for !text(b).under(c) {
		c = c.parent()
	}
	return string(c), api.OK
}

// label reports whether a text is a label, or, in the first place, the sign of a wildcard.
func label(s text, first bool) bool {
	if first && s == "*" {
		return true
	}
	if len(s) == 0 || len(s) > api.MaxLabel || s[0] == '-' || s[len(s)-1] == '-' {
		return false
	}
	for i := 0; i < len(s); i++ {
		c := s[i]
		if (c < 'a' || c > 'z') && (c < '0' || c > '9') && c != '-' {
			return false
		}
	}
	return true
}

func (n text) valid() bool {
	if n == root {
		return true
	}
	if len(n) == 0 || len(n) > api.MaxName {
		return false
	}
	labels, start := 0, 0
	for i := 0; i <= len(n); i++ {
		if i < len(n) && n[i] != '.' {
			continue
		}
		if !label(n[start:i], start == 0) {
			return false
		}
		labels++
		start = i + 1
	}
	return labels <= api.MaxDepth
}

// fromLast returns what produces the labels of a name, the last one first.
func (n text) fromLast() iter.Seq[string] {
	return func(yield func(string) bool) {
		if n == root {
			return
		}
		end := len(n)
		for i := len(n) - 1; i >= 0; i-- {
			if n[i] == '.' {
				if !yield(string(n[i+1 : end])) {
					return
				}
				end = i
			}
		}
		yield(string(n[:end]))
	}
}

// split returns the labels at the end of an array, and where they begin.
func split(labels func() iter.Seq[string]) ([api.MaxDepth]string, int) {
	var list [api.MaxDepth]string
	from := api.MaxDepth
	for l := range labels() {
		from--
		list[from] = l
	}
	return list, from
}

func (n text) parent() text {
	i := strings.IndexByte(string(n), '.')
	if i < 0 {
		return root
	}
	return n[i+1:]
}

func (n text) under(zone text) bool {
	if zone == root || n == zone {
		return true
	}
	k := len(n) - len(zone)
	return k > 1 && n[k-1] == '.' && n[k:] == zone
}

func (n text) compare(m text) int {
	if n == m {
		return 0
	}
	list, from := split(n.fromLast)
	k := api.MaxDepth
	for l := range m.fromLast() {
		k--
		if k < from {
			return -1
		}
		if c := strings.Compare(list[k], l); c != 0 {
			return c
		}
	}
	if k > from {
		return 1
	}
	return 0
}
