package prove

import (
	"iter"
	"slices"

	"nameplan/answers"
	"nameplan/api"
	"nameplan/denial"
	"nameplan/name"
	"nameplan/stretch"
)

// prover finds the clashes of the way of some questions, in a valid history.
type prover struct {
	history api.History
	held    []api.Held
	use     [][]api.Span // when each set is in use, before the end
	places  map[api.Question][]int
	asked   []api.Question
	names   []string // on the way
	below   []string // these without the root
	onWay   map[string]bool
	answers *answers.Finder
	e       api.Errno
}

// clashes produces clashes.
type clashes = iter.Seq[api.Clash]

func newProver(h api.History, held []api.Held, l []api.Question) *prover {
	p := &prover{history: h, held: held, places: map[api.Question][]int{}, asked: l, answers: answers.New(h)}
	whole := stretch.Between(0, h.End)
	for i, x := range held {
		p.use = append(p.use, stretch.Cross(x.Spans, whole))
		q := api.Question{Name: x.Signed.Set.Name, Type: x.Signed.Set.Type}
		p.places[q] = append(p.places[q], i)
	}
	p.walk()
	return p
}

func under(a, b string) bool {
	is, _ := name.Under(a, b)
	return is
}

// walk finds the names on the way.
func (p *prover) walk() {
	p.onWay = map[string]bool{}
	var queue []string
	reach := func(n string) {
		for e := api.OK; e == api.OK && !p.onWay[n]; n, e = name.Parent(n) {
			p.onWay[n] = true
			queue = append(queue, n)
		}
	}
	for _, q := range p.asked {
		reach(q.Name)
	}
	for len(queue) > 0 {
		n := queue[0]
		queue = queue[1:]
		p.names = append(p.names, n)
		for _, h := range p.hosts(n) {
			reach(h)
		}
	}
	slices.SortFunc(p.names, compare)
	for _, n := range p.names {
		if n != "." {
			p.below = append(p.below, n)
		}
	}
}

func compare(a, b string) int {
	c, _ := name.Compare(a, b)
	return c
}

// servers returns the places of the server sets at a name.
func (p *prover) servers(n string) []int {
	return p.places[api.Question{Name: n, Type: api.TypeServer}]
}

// hosts returns the data of all server sets at a name, in order, each once.
func (p *prover) hosts(n string) []string {
	var out []string
	for _, i := range p.servers(n) {
		for _, d := range p.held[i].Signed.Set.Data {
			out = append(out, d.Text)
		}
	}
	slices.SortFunc(out, compare)
	return slices.Compact(out)
}

// used returns when one of the server sets at a name is in use for which a function says so.
func (p *prover) used(n string, is func(api.Held) bool) []api.Span {
	var lists [][]api.Span
	for _, i := range p.servers(n) {
		if is(p.held[i]) {
			lists = append(lists, p.use[i])
		}
	}
	return stretch.Union(lists...)
}

func every(api.Held) bool { return true }

// naming returns what says whether a server set has a host.
func naming(host string) func(api.Held) bool {
	return func(x api.Held) bool { return slices.Contains(x.Signed.Set.Data, api.Datum{Text: host}) }
}

// data returns the clashes of data for a question.
func (p *prover) data(q api.Question) []api.Clash {
	l := p.answers.Data(q)
	if len(l) > api.MaxSets {
		p.e = api.ErrLimit
	}
	return l
}

// all produces the clashes of the way, in order.
func (p *prover) all(first []api.Clash) clashes {
	parts := []clashes{p.combined(first), p.asking, p.anchors, p.keys, p.addresses, p.misled, p.aliases, p.glue, p.loops, p.undelegated}
	return func(yield func(api.Clash) bool) {
		for _, part := range parts {
			for x := range part {
				if p.e != api.OK || !yield(x) {
					return
				}
			}
			if p.e != api.OK {
				return
			}
		}
	}
}

// cut produces clashes, each one cut to some stretches.
func cut(l []api.Clash, times []api.Span) clashes {
	return func(yield func(api.Clash) bool) {
		for _, x := range l {
			for _, s := range stretch.Cross([]api.Span{x.Span}, times) {
				x.Span = s
				if !yield(x) {
					return
				}
			}
		}
	}
}

// each produces a clash for each stretch.
func each(x api.Clash, times []api.Span) clashes {
	return func(yield func(api.Clash) bool) {
		for _, s := range times {
			x.Span = s
			if !yield(x) {
				return
			}
		}
	}
}

// pass hands clashes on, and reports whether more are wanted.
func pass(l clashes, yield func(api.Clash) bool) bool {
	for x := range l {
		if !yield(x) {
			return false
		}
	}
	return true
}

// combined produces the first four kinds of clashes whose zones are on the way.
func (p *prover) combined(l []api.Clash) clashes {
	return func(yield func(api.Clash) bool) {
		for _, x := range l {
			if p.onWay[x.Zone] && !yield(x) {
				return
			}
		}
	}
}

// asking produces the clashes of data for the protected questions.
func (p *prover) asking(yield func(api.Clash) bool) {
	for _, q := range p.asked {
		if !pass(slices.Values(p.data(q)), yield) {
			return
		}
	}
}

// anchors produces the clashes of data for anchors.
func (p *prover) anchors(yield func(api.Clash) bool) {
	for _, c := range p.below {
		l := slices.DeleteFunc(p.data(api.Question{Name: c, Type: api.TypeAnchor}), func(x api.Clash) bool { return x.Zone == c })
		if len(l) > 0 && !pass(cut(l, p.anchorTimes(c)), yield) {
			return
		}
	}
}

// keys produces the clashes of data for keys.
func (p *prover) keys(yield func(api.Clash) bool) {
	for _, c := range p.names {
		l := slices.DeleteFunc(p.data(api.Question{Name: c, Type: api.TypeKey}), func(x api.Clash) bool { return x.Zone != c })
		if len(l) > 0 && !pass(cut(l, p.used(c, every)), yield) {
			return
		}
	}
}

// addresses produces the clashes of data for the addresses of hosts.
func (p *prover) addresses(yield func(api.Clash) bool) {
	for _, c := range p.names {
		for _, n := range p.hosts(c) {
			l := p.data(api.Question{Name: n, Type: api.TypeAddr})
			if len(l) > 0 && !pass(cut(l, p.used(c, naming(n))), yield) {
				return
			}
		}
	}
}

// misleading returns the clashes of the sets that mislead about a question, and for which a function says so.
func (p *prover) misleading(q api.Question, is func(api.Held) bool) []api.Clash {
	var out []api.Clash
	for i, x := range p.held {
		if is(x) && misleads(x, q) {
			for y := range each(api.Clash{Kind: api.ClashData, Zone: x.Zone, Two: x.Signed, Q: q}, p.use[i]) {
				out = append(out, y)
			}
		}
	}
	return out
}

// misled produces the clashes of sets that mislead about the protected questions.
func (p *prover) misled(yield func(api.Clash) bool) {
	for _, q := range p.asked {
		if !pass(slices.Values(p.misleading(q, every)), yield) {
			return
		}
	}
}

func isAlias(x api.Held) bool { return x.Signed.Set.Type == api.TypeAlias }

// aliases produces the clashes of aliases of hosts, and then of zones.
func (p *prover) aliases(yield func(api.Clash) bool) {
	for _, c := range p.names {
		for _, n := range p.hosts(c) {
			l := p.misleading(api.Question{Name: n, Type: api.TypeAddr}, isAlias)
			if len(l) > 0 && !pass(cut(l, p.used(c, naming(n))), yield) {
				return
			}
		}
	}
	for _, c := range p.names {
		l := p.misleading(api.Question{Name: c, Type: api.TypeKey}, isAlias)
		if len(l) > 0 && !pass(cut(l, p.used(c, every)), yield) {
			return
		}
	}
}

// misleads reports whether a set misleads about a question.
func misleads(x api.Held, q api.Question) bool {
	s := x.Signed.Set
	if s.Type == api.TypeAlias {
		return s.Name == q.Name && q.Type != api.TypeAlias && q.Type != api.TypeNext
	}
	if s.Type != api.TypeNext || !under(q.Name, x.Zone) {
		return false
	}
	has := func(typ int) bool { return s.Data[0].N>>typ&1 == 1 }
	ofCut := has(api.TypeServer) && !has(api.TypeStart)
	if s.Name == q.Name {
		_, e := denial.Covers(x.Zone, s, q.Name)
		above := q.Type == api.TypeAnchor || q.Type == api.TypeNext
		return e == api.OK && !has(q.Type) && !has(api.TypeAlias) && (!ofCut || above)
	}
	if ofCut && under(q.Name, s.Name) {
		return false
	}
	covers, _ := denial.Covers(x.Zone, s, q.Name)
	return covers
}
