package prove

import (
	"slices"

	"nameplan/api"
	"nameplan/name"
	"nameplan/stretch"
)

// first returns when the first stretch begins, or false if there is none.
func first(l []api.Span) (int, bool) {
	if len(l) == 0 {
		return 0, false
	}
	return l[0].From, true
}

// anchorTimes returns when the anchors of a name may have to be asked for at zones that are not its own.
func (p *prover) anchorTimes(c string) []api.Span {
	others := p.used(c, func(x api.Held) bool { return x.Zone != c })
	var own []api.Span
	if t, ok := first(others); ok {
		own = stretch.From(p.used(c, func(x api.Held) bool { return x.Zone == c }), t)
	}
	lists := [][]api.Span{others, own}
	for host := range p.history.Hosts {
		if serves := p.serving(host, func(apex string) bool { return apex == c }); len(serves) > 0 {
			lists = append(lists, stretch.Cross(serves, p.askedAbove(host, c)))
		}
	}
	return stretch.Union(lists...)
}

// serving returns when a host serves one of the zones for which a function says so.
func (p *prover) serving(host int, is func(apex string) bool) []api.Span {
	var l []api.Span
	for _, c := range p.history.Copies {
		if c.Host == host && is(c.Zone.Apex) {
			l = append(l, api.Span{From: c.From, Until: c.Until})
		}
	}
	return stretch.Union(l)
}

// askedAbove returns when a host may be asked for a zone above a name.
func (p *prover) askedAbove(host int, c string) []api.Span {
	addr := p.history.Hosts[host].Addr
	if slices.Contains(p.history.Hints, addr) {
		return stretch.Between(0, p.history.End)
	}
	lists := [][]api.Span{p.serving(host, func(apex string) bool { return apex != c && under(c, apex) })}
	for a, e := name.Parent(c); e == api.OK; a, e = name.Parent(a) {
		for _, i := range p.servers(a) {
			for _, d := range p.held[i].Signed.Set.Data {
				for _, k := range p.places[api.Question{Name: d.Text, Type: api.TypeAddr}] {
					if slices.Contains(p.held[k].Signed.Set.Data, api.Datum{N: addr}) {
						lists = append(lists, stretch.Cross(p.use[i], p.use[k]))
					}
				}
			}
		}
	}
	return stretch.Union(lists...)
}

// glue produces the clashes of hosts whose glue is not there.
func (p *prover) glue(yield func(api.Clash) bool) {
	for _, c := range p.below {
		for _, i := range p.servers(c) {
			for _, d := range p.held[i].Signed.Set.Data {
				if !under(d.Text, c) {
					continue
				}
				x := api.Clash{Kind: api.ClashServers, Zone: c, One: p.held[i].Signed, Q: api.Question{Name: d.Text, Type: api.TypeAddr}}
				if !pass(each(x, stretch.Cross(p.use[i], p.glueless(c, d.Text))), yield) {
					return
				}
			}
		}
	}
}

// glueless returns when the glue of a host for a cut is not there.
func (p *prover) glueless(c, host string) []api.Span {
	var delegated, wrong []api.Span
	for _, y := range p.history.Copies {
		if y.Zone.Apex == c || !under(c, y.Zone.Apex) {
			continue
		}
		servers, glue := false, false
		named := false
		for _, s := range y.Zone.Sets {
			if s.Set.Name == c && s.Set.Type == api.TypeServer {
				servers, named = true, slices.Contains(s.Set.Data, api.Datum{Text: host})
			}
			glue = glue || s.Set.Name == host && s.Set.Type == api.TypeAddr
		}
		if servers {
			at := api.Span{From: y.From, Until: y.Until}
			delegated = append(delegated, at)
			if !named || !glue {
				wrong = append(wrong, at)
			}
		}
	}
	none := stretch.Minus(stretch.Between(0, p.history.End), stretch.Union(delegated))
	return stretch.Union(none, stretch.Union(wrong))
}

// needs returns the names that a name needs at once.
func (p *prover) needs(c string) []string {
	var out []string
	for _, n := range p.hosts(c) {
		if under(n, c) {
			continue
		}
		for a, e := n, api.OK; e == api.OK; a, e = name.Parent(a) {
			if !under(c, a) && len(p.servers(a)) > 0 {
				out = append(out, a)
			}
		}
	}
	return out
}

// needsItself reports whether a name needs itself, by way of others.
func (p *prover) needsItself(c string) bool {
	known := map[string]bool{}
	queue := p.needs(c)
	for len(queue) > 0 {
		a := queue[0]
		queue = queue[1:]
		if a == c {
			return true
		}
		if !known[a] {
			known[a] = true
			queue = append(queue, p.needs(a)...)
		}
	}
	return false
}

// loops produces the clashes of names that need themselves, and of ways that are too long.
func (p *prover) loops(yield func(api.Clash) bool) {
	whole := stretch.Between(0, p.history.End)
	clash := func(c string) clashes {
		return each(api.Clash{Kind: api.ClashServers, Zone: c, Q: api.Question{Name: c, Type: api.TypeServer}}, whole)
	}
	zones := 0
	for _, c := range p.below {
		if len(p.servers(c)) > 0 {
			zones++
			if p.needsItself(c) && !pass(clash(c), yield) {
				return
			}
		}
	}
	if zones > api.MaxTries {
		pass(clash("."), yield)
	}
}

// undelegated produces the clashes of zones that are in use, but not delegated any more.
func (p *prover) undelegated(yield func(api.Clash) bool) {
	for _, c := range p.below {
		var fresh []api.Span
		for _, i := range p.servers(c) {
			if p.held[i].Zone != c {
				fresh = append(fresh, p.held[i].Fresh...)
			}
		}
		fresh = stretch.Union(fresh)
		t, ok := first(fresh)
		if !ok {
			continue
		}
		var lists [][]api.Span
		for i, x := range p.held {
			if x.Zone == c {
				lists = append(lists, p.use[i])
			}
		}
		times := stretch.From(stretch.Minus(stretch.Union(lists...), fresh), t)
		x := api.Clash{Kind: api.ClashServers, Zone: c, Q: api.Question{Name: c, Type: api.TypeServer}}
		if !pass(each(x, times), yield) {
			return
		}
	}
}
