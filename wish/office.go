package wish

import (
	"cmp"
	"slices"

	"nameplan/api"
	"nameplan/delta"
	"nameplan/denial"
	"nameplan/descent"
	"nameplan/name"
	"nameplan/sign"
	"nameplan/trust"
	"nameplan/value"
	"nameplan/zone"
)

// fault is the panic that leaves the stages.
type fault struct{ e api.Errno }

// change changes a zone of its own.
type change func(z *api.Zone)

// office makes the stages of a wish in a world.
type office struct {
	*descent.Tree
	wish        api.Wish
	from, until int
	got         map[string][]int // the hosts that got a copy of an apex in an earlier stage
}

// stages returns the stages of the wish that have Puts.
func (o *office) stages() (out []api.Stage, e api.Errno) {
	defer func() {
		if r := recover(); r != nil {
			f, is := r.(fault)
			if !is {
				panic(r)
			}
			out, e = nil, f.e
		}
	}()
	switch o.wish.Kind {
	case api.WishMove:
		out = o.move()
	case api.WishKeys:
		out = o.keys()
	case api.WishAddr:
		out = o.addr()
	default:
		out = o.split()
	}
	return slices.DeleteFunc(out, func(s api.Stage) bool { return len(s.Puts) == 0 }), api.OK
}

// need leaves the stages with an error, unless something is so.
func (o *office) need(ok bool, e api.Errno) {
	if !ok {
		panic(fault{e})
	}
}

// above returns the zone above the zone of the wish.
func (o *office) above() api.Zone {
	p, ok := above(o.Tree, o.wish.Zone)
	o.need(ok, api.ErrNone)
	return p
}

// keysOf returns the keys of a zone.
func (o *office) keysOf(z api.Zone) []api.Key {
	s, ok, _ := zone.Find(z, api.Question{Name: z.Apex, Type: api.TypeKey})
	o.need(ok, api.ErrClash)
	keys, _ := trust.Keys(s.Set)
	return keys
}

// changed returns a zone after changes, without signatures.
func changed(z api.Zone, l ...change) api.Zone {
	z = value.Zone(z)
	for i := range z.Sets {
		z.Sets[i].Sigs = nil
	}
	for _, f := range l {
		f(&z)
	}
	return z
}

// seal returns the new version of a zone, after changes.
func (o *office) seal(z api.Zone, keys []api.Key, l ...change) api.Zone {
	z = changed(z, append(l, nextSerial)...)
	o.need(zone.Valid(z), api.ErrClash)
	z, e := denial.Chain(z)
	o.need(e == api.OK, api.ErrClash)
	z, e = sign.All(z, keys, o.from, o.until)
	o.need(e == api.OK, api.ErrClash)
	return z
}

func nextSerial(z *api.Zone) {
	for i, s := range z.Sets {
		if s.Set.Type == api.TypeStart && s.Set.Name == z.Apex {
			z.Sets[i].Set.Data[0].N, _ = delta.After(s.Set.Data[0].N)
		}
	}
}

func compare(a api.Set, n string, typ int) int {
	c, _ := name.Compare(a.Name, n)
	return cmp.Or(c, cmp.Compare(a.Type, typ))
}

// become returns the change after which a set has some data: it keeps its life, a new one gets it.
func become(n string, typ, life int, data []api.Datum) change {
	return func(z *api.Zone) {
		i, ok := slices.BinarySearchFunc(z.Sets, api.Set{}, func(s api.Signed, _ api.Set) int { return compare(s.Set, n, typ) })
		if ok {
			z.Sets[i].Set.Data = slices.Clone(data)
			return
		}
		s := api.Set{Name: n, Type: typ, Life: life, Data: slices.Clone(data)}
		z.Sets = slices.Insert(z.Sets, i, api.Signed{Set: s})
	}
}

// glue returns the change that gives a zone the glue for a cut.
func (o *office) glue(cut string, life int) change {
	return func(z *api.Zone) {
		for _, i := range o.wish.Hosts {
			h := o.Hosts[i]
			if in, _ := name.Under(h.Name, cut); in {
				become(h.Name, api.TypeAddr, life, []api.Datum{{N: h.Addr}})(z)
			}
		}
	}
}

// serves reports whether a host has a copy of an apex.
func (o *office) serves(host int, apex string) bool {
	return slices.ContainsFunc(o.Zones, func(p api.Placed) bool { return p.Host == host && p.Zone.Apex == apex })
}

// give returns a Put of a zone for a host that gets it.
func (o *office) give(host int, z api.Zone) api.Placed {
	o.got[z.Apex] = append(o.got[z.Apex], host)
	return api.Placed{Host: host, Zone: value.Zone(z)}
}

// spread returns the Puts of a zone for all hosts that have a copy of it.
func (o *office) spread(z api.Zone) []api.Placed {
	var out []api.Placed
	for _, p := range o.Zones {
		if p.Zone.Apex == z.Apex {
			out = append(out, api.Placed{Host: p.Host, Zone: value.Zone(z)})
		}
	}
	for _, host := range o.got[z.Apex] {
		out = append(out, api.Placed{Host: host, Zone: value.Zone(z)})
	}
	return out
}

// stops returns a Put without sets for each copy for which a function says so.
func (o *office) stops(is func(api.Placed) bool) api.Stage {
	var s api.Stage
	for _, p := range o.Zones {
		if is(p) {
			s.Puts = append(s.Puts, api.Placed{Host: p.Host, Zone: api.Zone{Apex: p.Zone.Apex}})
		}
	}
	return s
}

// newLife returns the life of new sets: that of the servers of a zone.
func newLife(z api.Zone) int {
	s, _, _ := zone.Find(z, api.Question{Name: z.Apex, Type: api.TypeServer})
	return s.Set.Life
}

func (o *office) move() []api.Stage {
	z, _ := o.Copy(o.wish.Zone)
	p := o.above()
	var first, second api.Stage
	for _, host := range o.wish.Hosts {
		if !o.serves(host, z.Apex) {
			first.Puts = append(first.Puts, o.give(host, z))
		}
	}
	life := newLife(z)
	list := []change{become(z.Apex, api.TypeServer, life, servers(o.World, o.wish.Hosts)), o.glue(z.Apex, life)}
	second.Puts = o.spread(o.seal(z, o.keysOf(z), list...))
	second.Puts = append(second.Puts, o.spread(o.seal(p, o.keysOf(p), list...))...)
	third := o.stops(func(x api.Placed) bool { return x.Zone.Apex == z.Apex && !slices.Contains(o.wish.Hosts, x.Host) })
	return []api.Stage{first, second, third}
}

func (o *office) keys() []api.Stage {
	z, _ := o.Copy(o.wish.Zone)
	p := o.above()
	all := o.keysOf(z)
	if !slices.Contains(all, o.wish.Key) {
		all = append(all, o.wish.Key)
	}
	slices.SortFunc(all, func(a, b api.Key) int { return cmp.Or(cmp.Compare(a.N, b.N), cmp.Compare(a.Alg, b.Alg)) })
	var both []api.Datum
	for _, k := range all {
		both = append(both, keyData(k)...)
	}
	_, anchored, _ := zone.Find(p, api.Question{Name: z.Apex, Type: api.TypeAnchor})
	o.need(anchored, api.ErrClash)
	alone := keyData(o.wish.Key)
	first := o.seal(z, all, become(z.Apex, api.TypeKey, 0, both))
	second := o.seal(p, o.keysOf(p), become(z.Apex, api.TypeAnchor, 0, alone))
	third := o.seal(first, []api.Key{o.wish.Key}, become(z.Apex, api.TypeKey, 0, alone))
	return []api.Stage{{Puts: o.spread(first)}, {Puts: o.spread(second)}, {Puts: o.spread(third)}}
}

func (o *office) addr() []api.Stage {
	z, _ := o.Copy(o.wish.Zone)
	q := api.Question{Name: o.wish.Name, Type: api.TypeAddr}
	s, ok, _ := zone.Find(z, q)
	o.need(ok, api.ErrNone)
	host := o.wish.Hosts[0]
	old := func(p api.Placed) bool {
		return p.Host != host && slices.Contains(s.Set.Data, api.Datum{N: o.Hosts[p.Host].Addr})
	}
	var first, second api.Stage
	given, sealed := map[string]bool{}, map[string]bool{}
	for _, p := range o.Zones {
		apex := p.Zone.Apex
		if old(p) && !given[apex] && !o.serves(host, apex) {
			given[apex] = true
			c, _ := o.Copy(apex)
			first.Puts = append(first.Puts, o.give(host, c))
		}
	}
	for _, p := range o.Zones {
		c, _ := o.Copy(p.Zone.Apex)
		if _, has, _ := zone.Find(c, q); !has || sealed[c.Apex] {
			continue
		}
		sealed[c.Apex] = true
		n := o.seal(c, o.keysOf(c), become(q.Name, q.Type, 0, []api.Datum{{N: o.Hosts[host].Addr}}))
		second.Puts = append(second.Puts, o.spread(n)...)
	}
	return []api.Stage{first, second, o.stops(old)}
}

func (o *office) split() []api.Stage {
	z, _ := o.Copy(o.wish.Zone)
	n := o.wish.Name
	life := newLife(z)
	below := func(s api.Signed) bool {
		in, _ := name.Under(s.Set.Name, n)
		return in
	}
	start, _, _ := zone.Find(z, api.Question{Name: z.Apex, Type: api.TypeStart})
	fresh := api.Zone{Apex: n}
	for _, s := range z.Sets {
		if below(s) && s.Set.Type != api.TypeNext {
			fresh.Sets = append(fresh.Sets, s)
		}
	}
	hosts, key := servers(o.World, o.wish.Hosts), keyData(o.wish.Key)
	fresh = o.seal(fresh, []api.Key{o.wish.Key}, become(n, api.TypeServer, life, hosts),
		become(n, api.TypeStart, start.Set.Life, []api.Datum{{M: start.Set.Data[0].M}}), become(n, api.TypeKey, life, key), o.glue(n, life))
	var first api.Stage
	for _, host := range o.wish.Hosts {
		first.Puts = append(first.Puts, o.give(host, fresh))
	}
	cut := func(z *api.Zone) { z.Sets = slices.DeleteFunc(z.Sets, below) }
	rest := o.seal(z, o.keysOf(z), cut, become(n, api.TypeServer, life, hosts), become(n, api.TypeAnchor, life, key), o.glue(n, life))
	return []api.Stage{first, {Puts: o.spread(rest)}}
}
