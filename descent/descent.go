// Package descent goes down from the root of a valid world to the zone that has an answer.
package descent

import (
	"iter"

	"nameplan/api"
	"nameplan/lookup"
	"nameplan/zone"
)

// Tree is a world, with the copy of each apex.
type Tree struct {
	api.World
	newest map[string]int
}

// New returns the tree of a valid world.
func New(w api.World) *Tree {
	t := &Tree{w, map[string]int{}}
	for _, p := range w.Zones {
		if _, known := t.newest[p.Zone.Apex]; !known {
			t.newest[p.Zone.Apex] = t.find(p.Zone.Apex)
		}
	}
	return t
}

// copies produces the indices of the copies of an apex.
func (t *Tree) copies(apex string) iter.Seq[int] {
	return func(yield func(int) bool) {
		for i, p := range t.Zones {
			if p.Zone.Apex == apex && !yield(i) {
				return
			}
		}
	}
}

// find returns the index of the copy of an apex: that with the greatest serial number, and then with the least host.
func (t *Tree) find(apex string) int {
	best, most := -1, -1
	for i := range t.copies(apex) {
		n, _ := zone.Serial(t.Zones[i].Zone)
		if n > most || n == most && t.Zones[i].Host < t.Zones[best].Host {
			best, most = i, n
		}
	}
	return best
}

// Copy returns the copy of an apex, if there is one.
func (t *Tree) Copy(apex string) (api.Zone, bool) {
	i, ok := t.newest[apex]
	if !ok {
		return api.Zone{}, false
	}
	return t.Zones[i].Zone, true
}

// Apexes returns the apexes of all copies, in no order.
func (t *Tree) Apexes() []string {
	var out []string
	for apex := range t.newest {
		out = append(out, apex)
	}
	return out
}

// Way produces the apexes of the copies that are asked one after the other, from the root on, and their answers. The last one is a referral if a copy is missing.
func (t *Tree) Way(q api.Question) iter.Seq2[string, api.Answer] {
	return func(yield func(string, api.Answer) bool) {
		for apex := "."; ; {
			z, ok := t.Copy(apex)
			if !ok {
				return
			}
			a, e := lookup.Answer(z, q)
			if e != api.OK || !yield(apex, a) || a.Kind != api.AnsRefer {
				return
			}
			apex = a.Cut
		}
	}
}

// Answer returns the answer from the root to a question, if no copy is missing.
func (t *Tree) Answer(q api.Question) (api.Answer, bool) {
	var last api.Answer
	for _, a := range t.Way(q) {
		last = a
	}
	return last, last.Kind != 0 && last.Kind != api.AnsRefer
}
