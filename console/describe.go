package console

import (
	"cmp"
	"slices"

	"nameplan/api"
	"nameplan/denial"
	"nameplan/sign"
	"nameplan/trust"
)

// host adds a host.
func (c *console) host(words []string) {
	var h api.Host
	arguments(words, text(&h.Name), number(&h.Addr), number(&h.Owner))
	need(len(c.history.Hosts) < api.MaxHosts, api.ErrFull)
	c.history.Hosts = append(slices.Clone(c.history.Hosts), h)
}

// hint adds a hint.
func (c *console) hint(words []string) {
	n := 0
	arguments(words, number(&n))
	need(len(c.history.Hints) < api.MaxData, api.ErrFull)
	c.history.Hints = append(slices.Clone(c.history.Hints), n)
}

// anchor adds a datum to the anchors of the root.
func (c *console) anchor(words []string) {
	var d api.Datum
	arguments(words, number(&d.N), number(&d.M))
	l := slices.Clone(c.history.Anchor.Data)
	need(!slices.Contains(l, d), api.ErrTwice)
	need(len(l) < api.MaxData, api.ErrFull)
	l = append(l, d)
	slices.SortFunc(l, func(a, b api.Datum) int { return cmp.Or(cmp.Compare(a.N, b.N), cmp.Compare(a.M, b.M)) })
	c.history.Anchor.Data = l
}

func (c *console) end(words []string) { arguments(words, number(&c.history.End)) }

func (c *console) drift(words []string) { arguments(words, number(&c.history.Drift)) }

// serve adds a copy of a zone of the source.
func (c *console) serve(words []string) {
	var x api.Copy
	apex := ""
	arguments(words, number(&x.Host), text(&apex), number(&x.From), number(&x.Until))
	i := slices.IndexFunc(c.zones, func(z api.Zone) bool { return z.Apex == apex })
	need(i >= 0, api.ErrNone)
	x.Zone = sealed(c.zones[i])
	c.history.Copies = append(slices.Clone(c.history.Copies), x)
}

// sealed returns a zone with its chain, signed by its keys, if it has some.
func sealed(z api.Zone) api.Zone {
	out, e := denial.Chain(z)
	check(e)
	for _, s := range out.Sets {
		if s.Set.Type == api.TypeKey {
			keys, e := trust.Keys(s.Set)
			check(e)
			out, e = sign.All(out, keys, 0, 2*api.MaxTime)
			check(e)
			return out
		}
	}
	return out
}

// protect adds a protected question.
func (c *console) protect(words []string) {
	var q api.Question
	arguments(words, text(&q.Name), kind(&q.Type))
	need(len(c.asked) < api.MaxAsked, api.ErrFull)
	c.asked = append(c.asked, q)
}

// deny takes the claims of a host away.
func (c *console) deny(words []string) {
	host := 0
	arguments(words, number(&host))
	c.claims = slices.DeleteFunc(slices.Clone(c.claims), func(x api.Claim) bool { return x.Host == host })
}
