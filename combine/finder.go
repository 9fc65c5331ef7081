package combine

import (
	"iter"
	"slices"

	"nameplan/api"
	"nameplan/owned"
	"nameplan/sign"
	"nameplan/stretch"
	"nameplan/trust"
	"nameplan/value"
)

// finder looks for clashes of a valid history.
type finder struct {
	history api.History
	held    []api.Held
	use     [][]api.Span // when each set is in use, before the end
	signers [][]api.Key  // the keys by which each set is signed for its zone
	own     []bool
	places  map[api.Question][]int
	byZone  map[string][]int
	serving func(zone string, addr int) []api.Span
	out     []found
}

func newFinder(h api.History, all []api.Held) *finder {
	f := &finder{history: h, held: all, places: map[api.Question][]int{}, byZone: map[string][]int{}}
	whole := stretch.Between(0, h.End)
	own := ownSets(h)
	for i, x := range all {
		f.use = append(f.use, stretch.Cross(x.Spans, whole))
		f.signers = append(f.signers, signers(x))
		f.own = append(f.own, own[x.Zone+" "+value.Key(x.Signed)])
		q := api.Question{Name: x.Signed.Set.Name, Type: x.Signed.Set.Type}
		f.places[q] = append(f.places[q], i)
		f.byZone[x.Zone] = append(f.byZone[x.Zone], i)
	}
	f.serving = serving(h)
	return f
}

// ownSets returns the own sets of all zones.
func ownSets(h api.History) map[string]bool {
	out := map[string]bool{}
	for _, c := range h.Copies {
		for i, own := range owned.Sets(c.Zone) {
			if own {
				out[c.Zone.Apex+" "+value.Key(c.Zone.Sets[i])] = true
			}
		}
	}
	return out
}

// signers returns the keys by which a set is signed for its zone.
func signers(x api.Held) []api.Key {
	var out []api.Key
	for _, g := range x.Signed.Sigs {
		k := api.Key{N: g.Key, Alg: g.Alg}
		if g.Zone == x.Zone && sign.Check(x.Signed.Set, g, k) {
			out = append(out, k)
		}
	}
	return out
}

// serving returns what says when the host with an address serves a zone.
func serving(h api.History) func(string, int) []api.Span {
	type server struct {
		zone string
		addr int
	}
	known := map[server][]api.Span{}
	for _, c := range h.Copies {
		at := server{c.Zone.Apex, h.Hosts[c.Host].Addr}
		known[at] = append(known[at], api.Span{From: c.From, Until: c.Until})
	}
	for at, l := range known {
		known[at] = stretch.Union(l)
	}
	return func(zone string, addr int) []api.Span { return known[server{zone, addr}] }
}

// sets produces the places of the sets of a type at a name, for which a function says so.
func (f *finder) sets(n string, typ int, is func(api.Held) bool) iter.Seq[int] {
	return func(yield func(int) bool) {
		for _, i := range f.places[api.Question{Name: n, Type: typ}] {
			if is(f.held[i]) && !yield(i) {
				return
			}
		}
	}
}

// fresh returns when one of the sets of a type at a name is published, for which a function says so.
func (f *finder) fresh(n string, typ int, is func(api.Held) bool) []api.Span {
	var lists [][]api.Span
	for i := range f.sets(n, typ, is) {
		lists = append(lists, f.held[i].Fresh)
	}
	return stretch.Union(lists...)
}

// note notes down a clash for each stretch; places of -1 mean that there is no set.
func (f *finder) note(x api.Clash, one, two int, l []api.Span) {
	for _, s := range l {
		x.Span = s
		y := found{x, one, two}
		if one >= 0 {
			y.clash.One = value.Signed(f.held[one].Signed)
		} else {
			y.clash.One = value.Signed(x.One)
		}
		if two >= 0 {
			y.clash.Two = value.Signed(f.held[two].Signed)
		}
		f.out = append(f.out, y)
	}
}

func every(api.Held) bool { return true }

func ofZone(zone string) func(api.Held) bool {
	return func(x api.Held) bool { return x.Zone == zone }
}

func notOf(zone string) func(api.Held) bool {
	return func(x api.Held) bool { return x.Zone != zone }
}

// keySets produces the key sets of all zones.
func (f *finder) keySets(yield func(int) bool) {
	for i, x := range f.held {
		if x.Signed.Set.Type == api.TypeKey && !yield(i) {
			return
		}
	}
}

// serverSets produces all sets of servers.
func (f *finder) serverSets(yield func(int) bool) {
	for i, x := range f.held {
		if x.Signed.Set.Type == api.TypeServer && !yield(i) {
			return
		}
	}
}

// fits reports whether a key set is signed by a key that it has, and an anchor set has.
func (f *finder) fits(anchor api.Set, two int) bool {
	keys, _ := trust.Keys(f.held[two].Signed.Set)
	return slices.ContainsFunc(f.signers[two], func(k api.Key) bool {
		return slices.Contains(keys, k) && slices.Contains(anchor.Data, api.Datum{N: k.N, M: k.Alg})
	})
}

// anchors finds anchors and keys that do not fit.
func (f *finder) anchors() {
	for two := range f.keySets {
		zone := f.held[two].Zone
		x := api.Clash{Kind: api.ClashAnchor, Zone: zone}
		if zone == "." && !f.fits(f.history.Anchor, two) {
			root := x
			root.One = api.Signed{Set: f.history.Anchor}
			f.note(root, -1, two, f.use[two])
		}
		for one := range f.sets(zone, api.TypeAnchor, notOf(zone)) {
			if !f.fits(f.held[one].Signed.Set, two) {
				f.note(x, one, two, stretch.Cross(f.use[one], f.use[two]))
			}
		}
	}
}

// unanchored finds servers of zones of which no anchors are published.
func (f *finder) unanchored() {
	for one := range f.serverSets {
		c := f.held[one].Signed.Set.Name
		if f.held[one].Zone != c {
			f.note(api.Clash{Kind: api.ClashAnchor, Zone: c}, one, -1, stretch.Minus(f.use[one], f.fresh(c, api.TypeAnchor, notOf(c))))
		}
	}
}

// keys finds sets that no key of their zone signed.
func (f *finder) keys() {
	for one := range f.keySets {
		zone := f.held[one].Zone
		keys, _ := trust.Keys(f.held[one].Signed.Set)
		for _, two := range f.byZone[zone] {
			if !f.own[two] || f.held[two].Signed.Set.Type == api.TypeKey || slices.ContainsFunc(f.signers[two], func(k api.Key) bool { return slices.Contains(keys, k) }) {
				continue
			}
			f.note(api.Clash{Kind: api.ClashKeys, Zone: zone}, one, two, stretch.Cross(f.use[one], f.use[two]))
			if len(f.out) > api.MaxSets {
				return
			}
		}
	}
}

// keyless finds zones of which no keys are published.
func (f *finder) keyless() {
	for one := range f.serverSets {
		c := f.held[one].Signed.Set.Name
		f.note(api.Clash{Kind: api.ClashKeys, Zone: c}, one, -1, stretch.Minus(f.use[one], f.fresh(c, api.TypeKey, ofZone(c))))
	}
	whole := stretch.Between(0, f.history.End)
	f.note(api.Clash{Kind: api.ClashKeys, Zone: "."}, -1, -1, stretch.Minus(whole, f.fresh(".", api.TypeKey, ofZone("."))))
}

// servers finds hosts that are not good for a zone.
func (f *finder) servers() {
	for one := range f.serverSets {
		c := f.held[one].Signed.Set.Name
		for _, d := range f.held[one].Signed.Set.Data {
			q := api.Question{Name: d.Text, Type: api.TypeAddr}
			f.note(api.Clash{Kind: api.ClashServers, Zone: c, Q: q}, one, -1, stretch.Cross(f.use[one], f.notGood(d.Text, c)))
		}
		if len(f.out) > api.MaxSets {
			return
		}
	}
}

// notGood returns when the name of a host is not good for a zone.
func (f *finder) notGood(host, zone string) []api.Span {
	lists := [][]api.Span{stretch.Minus(stretch.Between(0, f.history.End), f.fresh(host, api.TypeAddr, every))}
	for i := range f.sets(host, api.TypeAddr, every) {
		lists = append(lists, stretch.Minus(f.use[i], f.reached(zone, f.held[i].Signed.Set.Data)))
	}
	return stretch.Union(lists...)
}

// reached returns when a host with one of some addresses serves a zone.
func (f *finder) reached(zone string, data []api.Datum) []api.Span {
	var lists [][]api.Span
	for _, d := range data {
		lists = append(lists, f.serving(zone, d.N))
	}
	return stretch.Union(lists...)
}

// hints finds times at which no hint leads to the root.
func (f *finder) hints() {
	var data []api.Datum
	for _, n := range f.history.Hints {
		data = append(data, api.Datum{N: n})
	}
	x := api.Clash{Kind: api.ClashServers, Zone: ".", Q: api.Question{Name: ".", Type: api.TypeServer}}
	f.note(x, -1, -1, stretch.Minus(stretch.Between(0, f.history.End), f.reached(".", data)))
}

// windows finds sets whose signatures are not surely valid.
func (f *finder) windows() {
	for two, x := range f.held {
		if len(x.Signed.Sigs) == 0 {
			continue
		}
		g := x.Signed.Sigs[0]
		sure := stretch.Between(g.From+f.history.Drift, g.Until-f.history.Drift+1)
		f.note(api.Clash{Kind: api.ClashWindow, Zone: x.Zone}, -1, two, stretch.Minus(f.use[two], sure))
	}
}
