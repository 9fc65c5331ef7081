package zone

import (
	"nameplan/api"
	"nameplan/name"
	"nameplan/siglist"
)

// placed is a zone with the cut that each of its sets is behind (empty, if it is behind none).
type placed struct {
	api.Zone
	behind []string
}

// place finds the cuts of a zone whose sets are in order: what is behind a cut follows it.
func place(z api.Zone) placed {
	p := placed{z, make([]string, len(z.Sets))}
	cut := ""
	for i := 0; i < len(z.Sets); {
		owner := z.Sets[i].Set.Name
		end := p.groupEnd(i)
		if in, _ := name.Under(owner, cut); cut != "" && !in {
			cut = ""
		}
		if cut == "" && owner != z.Apex && p.has(i, end, api.TypeServer) {
			cut = owner
		}
		for ; i < end; i++ {
			p.behind[i] = cut
		}
	}
	return p
}

// groupEnd returns where the sets with the name of a set end.
func (p placed) groupEnd(i int) int {
	end := i + 1
	for end < len(p.Sets) && p.Sets[end].Set.Name == p.Sets[i].Set.Name {
		end++
	}
	return end
}

// has reports whether there is a set of a type from a place to before another one.
func (p placed) has(from, end, typ int) bool {
	for _, s := range p.Sets[from:end] {
		if s.Set.Type == typ {
			return true
		}
	}
	return false
}

// pick returns the places of sets for which a method of the zone says so.
func (p placed) pick(is func(placed, int) bool) []int {
	var out []int
	for i := range p.Sets {
		if is(p, i) {
			out = append(out, i)
		}
	}
	return out
}

func (p placed) atApex(i int) bool { return p.Sets[i].Set.Name == p.Apex }

// foreign reports whether a set is one of the servers of a cut, or glue.
func (p placed) foreign(i int) bool {
	typ := p.Sets[i].Set.Type
	return p.behind[i] != "" && (typ == api.TypeServer || typ == api.TypeAddr)
}

// named reports whether the name of a set is one of the names of the zone.
func (p placed) named(i int) bool {
	return !p.foreign(i) || p.behind[i] == p.Sets[i].Set.Name
}

// broken reports whether a set stands where it may not, with regard to cuts.
func (p placed) broken(i int) bool {
	s := p.Sets[i].Set
	switch {
	case p.behind[i] == "":
		return s.Type == api.TypeAnchor
	case p.behind[i] == s.Name:
		return s.Type != api.TypeServer && s.Type != api.TypeAnchor && s.Type != api.TypeNext && s.Type != api.TypeAddr
	}
	return s.Type != api.TypeAddr
}

func (p placed) misplaced(i int) bool {
	return !mayStand(p.Sets[i].Set.Type, p.atApex(i))
}

func (p placed) wronglySigned(i int) bool {
	sigs := p.Sets[i].Sigs
	return len(sigs) > 0 && p.foreign(i) || !siglist.InForm(sigs, p.Apex)
}

// apexHolds reports whether what is needed at the apex is there, and nothing that may not.
func (p placed) apexHolds() bool {
	if len(p.Sets) == 0 || !p.atApex(0) {
		return false
	}
	end := p.groupEnd(0)
	return p.has(0, end, api.TypeStart) && p.has(0, end, api.TypeServer) && len(p.pick(placed.misplaced)) == 0
}

// aliasesHold reports whether aliases stand alone, or beside a next set.
func (p placed) aliasesHold() bool {
	for i := 0; i < len(p.Sets); {
		end := p.groupEnd(i)
		others := end - i - 1
		if p.has(i, end, api.TypeNext) {
			others--
		}
		if p.has(i, end, api.TypeAlias) && others > 0 {
			return false
		}
		i = end
	}
	return true
}

func (p placed) cutsHold() bool { return len(p.pick(placed.broken)) == 0 }

func (p placed) signaturesHold() bool { return len(p.pick(placed.wronglySigned)) == 0 }
