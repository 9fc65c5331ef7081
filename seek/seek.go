// Package seek finds the next question of a resolver from the sets that it knows. Layers 28 and 31 use it.
package seek

import (
	"iter"
	"slices"

	"nameplan/api"
	"nameplan/name"
)

// Sets are the known sets, by their names and types.
type Sets map[api.Question]api.Signed

// New returns the known sets of a list: the first one of each name and type.
func New(known []api.Signed) Sets {
	out := Sets{}
	for _, s := range known {
		q := api.Question{Name: s.Set.Name, Type: s.Set.Type}
		if _, there := out[q]; !there {
			out[q] = s
		}
	}
	return out
}

// Follow follows aliases: it returns the sets that are kept, the question at which it ends, and false if it is dark.
func (k Sets) Follow(q api.Question) ([]api.Signed, api.Question, bool) {
	var kept []api.Signed
	for q.Type != api.TypeAlias && q.Type != api.TypeNext && !k.has(q) {
		s, ok := k[api.Question{Name: q.Name, Type: api.TypeAlias}]
		if !ok {
			break
		}
		if len(kept) == api.MaxAlias {
			return nil, api.Question{}, false
		}
		kept = append(kept, s)
		q.Name = s.Set.Data[0].Text
	}
	return kept, q, true
}

// Next returns the next question for a question, as it stands: to ask a zone.
func (k Sets) Next(hints []int, q api.Question) api.Next {
	left := map[string]bool{}
search:
	for {
		for zone := range k.zones(q) {
			if left[zone] && zone != "." {
				continue
			}
			if l := k.addresses(zone, hints); len(l) > 0 {
				return api.Next{Kind: api.NeedAsk, Zone: zone, Addrs: l[:len(l):len(l)], Q: q}
			}
			if q2, ok := k.hostQuestion(zone); ok && len(left) < api.MaxTries {
				left[zone] = true
				q = q2
				continue search
			}
		}
	}
}

// Zone returns the closest zone above a name whose servers are known.
func (k Sets) Zone(s string) string {
	for zone := range k.zones(api.Question{Name: s, Type: api.TypeServer}) {
		return zone
	}
	return "."
}

func (k Sets) has(q api.Question) bool {
	_, ok := k[q]
	return ok
}

// zones produces the zones to ask, that with the most labels first, and the root last.
func (k Sets) zones(q api.Question) iter.Seq[string] {
	return func(yield func(string) bool) {
		for s := q.Name; s != "."; s, _ = name.Parent(s) {
			if q.Type == api.TypeAnchor && s == q.Name || !k.has(api.Question{Name: s, Type: api.TypeServer}) {
				continue
			}
			if !yield(s) {
				return
			}
		}
		yield(".")
	}
}

// addresses returns the addresses of a zone.
func (k Sets) addresses(zone string, hints []int) []int {
	var out []int
	for _, h := range k[api.Question{Name: zone, Type: api.TypeServer}].Set.Data {
		for _, d := range k[api.Question{Name: h.Text, Type: api.TypeAddr}].Set.Data {
			if !slices.Contains(out, d.N) {
				out = append(out, d.N)
			}
		}
	}
	if zone == "." && len(out) == 0 {
		return slices.Clone(hints)
	}
	return out
}

// hostQuestion returns the question for the address of the first host of a zone that is not under it, if it has to be asked.
func (k Sets) hostQuestion(zone string) (api.Question, bool) {
	for _, h := range k[api.Question{Name: zone, Type: api.TypeServer}].Set.Data {
		if in, _ := name.Under(h.Text, zone); in {
			continue
		}
		_, q, ok := k.Follow(api.Question{Name: h.Text, Type: api.TypeAddr})
		return q, ok && !k.has(q)
	}
	return api.Question{}, false
}
