// Package answers finds the hosts that answer a question otherwise than with data. Layers 36 and 37 use it.
package answers

import (
	"cmp"
	"slices"

	"nameplan/api"
	"nameplan/name"
	"nameplan/stretch"
	"nameplan/value"
	"nameplan/world"
)

// Finder knows which versions are served in a valid history.
type Finder struct {
	history  api.History
	versions []api.Zone // different ones
	version  []int      // of each copy
	byHost   [][]int    // the copies of each host
	served   map[string][]api.Span
	asked    map[asked]api.Answer
}

// asked is a question to a version.
type asked struct {
	q       api.Question
	version int
}

// New returns the finder of a valid history.
func New(h api.History) *Finder {
	f := &Finder{history: h, byHost: make([][]int, len(h.Hosts)), served: map[string][]api.Span{}, asked: map[asked]api.Answer{}}
	known := map[string][]int{}
	for i, c := range h.Copies {
		apex := c.Zone.Apex
		at := slices.IndexFunc(known[apex], func(v int) bool { return value.SameZone(f.versions[v], c.Zone) })
		if at < 0 {
			at = len(known[apex])
			known[apex] = append(known[apex], len(f.versions))
			f.versions = append(f.versions, c.Zone)
		}
		f.version = append(f.version, known[apex][at])
		f.byHost[c.Host] = append(f.byHost[c.Host], i)
		f.served[apex] = append(f.served[apex], api.Span{From: c.From, Until: c.Until})
	}
	for apex, l := range f.served {
		f.served[apex] = stretch.Union(l)
	}
	return f
}

// answer returns what a version answers.
func (f *Finder) answer(v int, q api.Question) api.Answer {
	key := asked{q, v}
	a, ok := f.asked[key]
	if !ok {
		// A host that has this version alone answers from it.
		w := api.World{Hosts: []api.Host{{Name: "h", Addr: 1}}, Zones: []api.Placed{{Zone: f.versions[v]}}, Anchor: f.history.Anchor, Hints: f.history.Hints}
		a, _ = world.Ask(w, 1, q)
		a.Sets = nil
		f.asked[key] = a
	}
	return a
}

// bad returns when a copy that is asked in a stretch gives no answer as it should.
func (f *Finder) bad(copy int, q api.Question, s api.Span) []api.Span {
	a := f.answer(f.version[copy], q)
	switch a.Kind {
	case api.AnsData:
		return nil
	case api.AnsRefer:
		return stretch.Minus(stretch.Between(s.From, s.Until), f.served[a.Cut])
	}
	return stretch.Between(s.From, s.Until)
}

// from returns the copy from which a host answers at a time, of some copies, or -1.
func (f *Finder) from(copies []int, q api.Question, t int) int {
	best, second := -1, -1
	longer := func(i, than int) bool {
		return than < 0 || len(f.history.Copies[i].Zone.Apex) > len(f.history.Copies[than].Zone.Apex) || f.history.Copies[than].Zone.Apex == "."
	}
	for _, i := range copies {
		c := f.history.Copies[i]
		if t < c.From || t >= c.Until {
			continue
		}
		if longer(i, best) {
			best, second = i, best
		} else if longer(i, second) {
			second = i
		}
	}
	if best >= 0 && second >= 0 && q.Type == api.TypeAnchor && f.history.Copies[best].Zone.Apex == q.Name {
		return second
	}
	return best
}

// Data returns the clashes of what hosts answer to a valid question, in order.
func (f *Finder) Data(q api.Question) []api.Clash {
	var out []api.Clash
	for host, copies := range f.byHost {
		copies = f.relevant(copies, q)
		var ends []int
		for _, i := range copies {
			ends = append(ends, f.history.Copies[i].From, f.history.Copies[i].Until)
		}
		slices.Sort(ends)
		ends = slices.Compact(ends)
		bad := map[string][][]api.Span{}
		for k := 0; k+1 < len(ends); k++ {
			if i := f.from(copies, q, ends[k]); i >= 0 {
				apex := f.history.Copies[i].Zone.Apex
				bad[apex] = append(bad[apex], f.bad(i, q, api.Span{From: ends[k], Until: ends[k+1]}))
			}
		}
		for apex, l := range bad {
			for _, s := range stretch.Union(l...) {
				out = append(out, api.Clash{Kind: api.ClashData, Zone: apex, Span: s, Q: q, Host: host})
			}
		}
	}
	slices.SortFunc(out, order)
	return out
}

// relevant returns the copies whose apexes the name of a question is under.
func (f *Finder) relevant(copies []int, q api.Question) []int {
	var out []int
	for _, i := range copies {
		if in, _ := name.Under(q.Name, f.history.Copies[i].Zone.Apex); in {
			out = append(out, i)
		}
	}
	return out
}

// order compares clashes of one question.
func order(a, b api.Clash) int {
	c := 0
	if a.Zone != b.Zone {
		c, _ = name.Compare(a.Zone, b.Zone)
	}
	return cmp.Or(c, cmp.Compare(a.Span.From, b.Span.From), cmp.Compare(a.Span.Until, b.Span.Until), cmp.Compare(a.Host, b.Host))
}
