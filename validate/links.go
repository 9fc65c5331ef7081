package validate

import (
	"iter"
	"slices"

	"nameplan/api"
	"nameplan/denial"
	"nameplan/name"
)

// link is a set that is part of an answer; or what is missing, or that there are too many aliases.
type link struct {
	set     api.Signed
	missing bool
	loop    bool
	q       api.Question
}

// signer returns the zone that signed a set, or nothing.
func signer(s api.Signed) string {
	if len(s.Sigs) == 0 {
		return ""
	}
	return s.Sigs[0].Zone
}

// links produces the links of a question.
func (j *judge) links(q api.Question) iter.Seq[link] {
	return func(yield func(link) bool) {
		for aliases := 0; ; aliases++ {
			list, end := j.stage(q)
			if len(list) == 0 {
				yield(link{missing: true, q: q})
				return
			}
			if !end && aliases == api.MaxAlias {
				yield(link{loop: true})
				return
			}
			for _, s := range list {
				if !yield(link{set: s}) {
					return
				}
			}
			if end {
				return
			}
			q.Name = list[0].Set.Data[0].Text
		}
	}
}

// stage returns the links for a question up to the next alias, and whether they end there; none, if they are missing.
func (j *judge) stage(q api.Question) ([]api.Signed, bool) {
	if s, ok := j.counted(q.Name, q.Type); ok {
		return []api.Signed{s}, true
	}
	if s, ok := j.alias(q.Name, q.Type); ok {
		return []api.Signed{s}, false
	}
	for a := q.Name; a != "."; {
		a, _ = name.Parent(a)
		if s, ok := j.counted(wildcard(a), q.Type); ok {
			if p, ok := j.proof(signer(s), q.Name, a); ok {
				return []api.Signed{s, p}, true
			}
		}
		if s, ok := j.alias(wildcard(a), q.Type); ok {
			if p, ok := j.proof(signer(s), q.Name, a); ok {
				return []api.Signed{s, p}, false
			}
		}
	}
	return j.denied(q), true
}

// counted returns the counted set of a name and a type.
func (j *judge) counted(n string, typ int) (api.Signed, bool) {
	i := slices.IndexFunc(j.known, func(s api.Signed) bool { return s.Set.Name == n && s.Set.Type == typ && signer(s) != "" })
	if i < 0 {
		return api.Signed{}, false
	}
	return j.known[i], true
}

// alias returns the counted alias of a name, if it matters for a type.
func (j *judge) alias(n string, typ int) (api.Signed, bool) {
	if typ == api.TypeAlias || typ == api.TypeNext {
		return api.Signed{}, false
	}
	return j.counted(n, api.TypeAlias)
}

// wildcard returns the wildcard of a name; it may be no name.
func wildcard(a string) string {
	if a == "." {
		return "*"
	}
	return "*." + a
}

// proof returns the first proof set of a zone which shows that the closest name above a name is another one.
func (j *judge) proof(zone, n, closest string) (api.Signed, bool) {
	for _, s := range j.known {
		if s.Set.Type != api.TypeNext || signer(s) != zone {
			continue
		}
		covers, e := denial.Covers(zone, s.Set, n)
		types := s.Set.Data[0].N
		ofCut := types>>api.TypeServer&1 == 1 && types>>api.TypeStart&1 == 0
		if e != api.OK || !covers || ofCut && under(n, s.Set.Name) {
			continue
		}
		a, _ := name.Common(n, s.Set.Name)
		b, _ := name.Common(n, s.Set.Data[0].Text)
		if under(b, a) {
			a = b
		}
		if a == closest {
			return s, true
		}
	}
	return api.Signed{}, false
}

// denied returns the sets of the closest zone whose next sets deny a question.
func (j *judge) denied(q api.Question) []api.Signed {
	nexts := map[string][]api.Signed{}
	for _, s := range j.known {
		if s.Set.Type == api.TypeNext && signer(s) != "" {
			nexts[signer(s)] = append(nexts[signer(s)], s)
		}
	}
	for zone, e := q.Name, api.OK; e == api.OK; zone, e = name.Parent(zone) {
		var sets []api.Set
		for _, s := range nexts[zone] {
			sets = append(sets, s.Set)
		}
		if len(sets) == 0 {
			continue
		}
		if kind, _ := denial.Denied(zone, q, sets); kind != 0 {
			return nexts[zone]
		}
	}
	return nil
}
