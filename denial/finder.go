package denial

import (
	"nameplan/api"
	"nameplan/name"
	"nameplan/zone"
)

// finder looks for proofs in a valid zone.
type finder struct {
	zone   api.Zone
	places map[api.Question]int
	named  map[string]bool
	exists map[string]bool
}

func newFinder(z api.Zone) finder {
	f := finder{z, map[api.Question]int{}, map[string]bool{}, map[string]bool{}}
	for i, s := range z.Sets {
		f.places[api.Question{Name: s.Set.Name, Type: s.Set.Type}] = i
	}
	names, _ := zone.Names(z)
	for _, n := range names {
		f.named[n] = true
		for p := n; !f.exists[p]; p, _ = name.Parent(p) {
			f.exists[p] = true
			if p == z.Apex {
				break
			}
		}
	}
	return f
}

// wildcardAbove returns the wildcard of the closest name above a name that exists, or nothing.
func (f finder) wildcardAbove(n string) string {
	for !f.exists[n] {
		n, _ = name.Parent(n)
	}
	return wildcard(n)
}

// answers reports whether there is an own set of a name that has a type, or is an alias.
func (f finder) answers(n string, typ int) bool {
	if !f.named[n] {
		return false
	}
	_, has := f.places[api.Question{Name: n, Type: typ}]
	_, alias := f.places[api.Question{Name: n, Type: api.TypeAlias}]
	return has || alias
}

// proof returns the place of the next set of a name, or of the first one that covers it; -1, if there is none.
func (f finder) proof(n string) int {
	if f.named[n] {
		if i, ok := f.places[api.Question{Name: n, Type: api.TypeNext}]; ok {
			return i
		}
		return -1
	}
	for i, s := range f.zone.Sets {
		if isNext(f.zone.Apex, s.Set) && covers(f.zone.Apex, s.Set, n) {
			return i
		}
	}
	return -1
}
