package waits_test

import (
	"slices"
	"testing"

	"nameplan/api"
	"nameplan/history"
	"nameplan/holds"
	"nameplan/prove"
	"nameplan/sample"
	"nameplan/span"
	"nameplan/steps"
	"nameplan/waits"
	"nameplan/wish"
)

func q(n string, typ int) api.Question { return api.Question{Name: n, Type: typ} }

// P38.1: the example of the document.
func TestExample(t *testing.T) {
	z := sample.With(sample.Bare("x", 1, "h"), sample.Signed("w.x", 1, 10, sample.Nums(7)))
	h := api.History{Hosts: sample.Hosts(), Copies: []api.Copy{{Until: 20, Zone: z}}, Anchor: sample.Signed(".", 6, 5, sample.Nums(1, 1)).Set, Hints: []int{1}, Drift: 2, End: 50}
	if l, e := waits.Moments(h); e != api.OK || !slices.Equal(l, []int{0, 20, 33}) {
		t.Error(l, e)
	}
	if n, e := waits.Longest(h, "x", 20); n != 13 || e != api.OK {
		t.Error(n, e)
	}
	if n, e := waits.Longest(h, "x", 30); n != 3 || e != api.OK {
		t.Error(n, e)
	}
	if n, e := waits.Longest(h, "x", 0); n != 0 || e != api.OK {
		t.Error(n, e)
	}
	if n, e := waits.Longest(h, "x", 50); n != 0 || e != api.OK {
		t.Error(n, e)
	}
	for want, f := range map[api.Errno]func() (int, api.Errno){api.ErrNone: func() (int, api.Errno) { return waits.Longest(h, "y", 5) }, api.ErrArg: func() (int, api.Errno) { return waits.Longest(h, "x", 51) }} {
		if n, e := f(); n != 0 || e != want {
			t.Error(n, e)
		}
	}
	_, e := waits.Longest(h, "X", 5)
	_, f := waits.Moments(api.History{})
	_, g := waits.Longest(h, "x", -1)
	if e != api.ErrArg || f != e || g != e {
		t.Error(e, f, g)
	}
	h.Copies[0].Zone.Sets[2].Sigs = []api.Sig{{Zone: "x", Key: 1, Alg: 1, From: 3, Until: 25}}
	if l, e := waits.Moments(h); e != api.OK || !slices.Equal(l, []int{0, 5, 20, 24, 28, 33}) {
		t.Error(l, e)
	}
}

func stagesOf(t *testing.T, h api.History, x api.Wish) []api.Stage {
	w, _ := history.At(h, 0)
	l, e := wish.Stages(w, x, 0, 20000000)
	if e != api.OK {
		t.Fatal(e)
	}
	return l
}

// P1: errors of Earliest.
func TestErrors(t *testing.T) {
	h := sample.Tree()
	s := stagesOf(t, h, api.Wish{Kind: 2, Zone: "x", Key: api.Key{N: 8, Alg: 1}})[0]
	bad := api.Stage{Puts: []api.Placed{{Host: 9}}}
	good := []api.Question{q("w.x", 1)}
	for i, f := range []func() (int, bool, api.Errno){
		func() (int, bool, api.Errno) { return waits.Earliest(api.History{}, s, good, 5, 50) },
		func() (int, bool, api.Errno) { return waits.Earliest(h, bad, good, 5, 50) },
		func() (int, bool, api.Errno) { return waits.Earliest(h, s, good, -1, 50) },
		func() (int, bool, api.Errno) { return waits.Earliest(h, s, good, 5, 4) },
		func() (int, bool, api.Errno) { return waits.Earliest(h, s, good, 5, 100) },
		func() (int, bool, api.Errno) { return waits.Earliest(h, s, []api.Question{q("", 1)}, 5, 50) },
		func() (int, bool, api.Errno) { return waits.Earliest(h, s, slices.Repeat(good, 51), 5, 50) },
	} {
		if n, ok, e := f(); e != api.ErrArg || ok || n != 0 {
			t.Error(i, n, ok, e)
		}
	}
}

// P38.2, P38.6: nothing changes between moments, and waits are long enough.
func TestMoments(t *testing.T) {
	d := sample.New(43)
	for range 5 {
		h := d.Shaken()
		l, e := waits.Moments(h)
		if e != api.OK || !slices.IsSorted(l) || len(slices.Compact(slices.Clone(l))) != len(l) {
			t.Fatal(l, e)
		}
		all, _ := holds.All(h)
		for at := 1; at < h.End; at++ {
			changed := slices.ContainsFunc(all, func(x api.Held) bool {
				return span.Has(x.Spans, at) != span.Has(x.Spans, at-1) || span.Has(x.Fresh, at) != span.Has(x.Fresh, at-1)
			})
			changed = changed || slices.ContainsFunc(h.Copies, func(c api.Copy) bool { return c.From == at || c.Until == at })
			if changed && !slices.Contains(l, at) {
				t.Error(at, "is no moment")
			}
		}
		for _, zone := range []string{".", "x", "y.x"} {
			for at := 10; at <= 100; at += 30 {
				n, e := waits.Longest(h, zone, at)
				ended := h
				ended.Copies = nil
				for _, c := range h.Copies {
					if c.Zone.Apex != zone {
						continue
					}
					if c.From < at {
						c.Until = min(c.Until, at)
						ended.Copies = append(ended.Copies, c)
					}
				}
				held, _ := holds.All(ended)
				usable := func(t int) bool {
					return slices.ContainsFunc(held, func(x api.Held) bool { return span.Has(x.Spans, t) })
				}
				if e != api.OK || usable(at+n) || n > 0 && !usable(at+n-1) {
					t.Error(zone, at, n, e)
				}
			}
		}
	}
}

// P38.3 to P38.5, P38.7: the earliest times of stages.
func TestEarliest(t *testing.T) {
	few, more := []api.Question{q("w.x", 1)}, []api.Question{q("w.x", 1), q("w.y", 1)}
	for i, x := range []api.Wish{{Kind: 2, Zone: "x", Key: api.Key{N: 8, Alg: 1}}, {Kind: 1, Zone: "x", Hosts: []int{2, 3}}} {
		h := sample.Plain()
		from := 5
		for k, s := range stagesOf(t, h, x) {
			at, ok, e := waits.Earliest(h, s, few, from, 90)
			if e != api.OK || !ok {
				t.Fatal(i, k, at, ok, e)
			}
			safe := func(t int) bool {
				next, _ := steps.Apply(h, []api.Step{{At: t, Stage: s}})
				_, ok, _ := prove.Prove(next, few, t, h.End)
				return ok
			}
			if !safe(at) {
				t.Error(i, k, at, "is not safe")
			}
			now, _ := waits.Moments(h)
			next, _ := steps.Apply(h, []api.Step{{At: from, Stage: s}})
			then, _ := waits.Moments(next)
			for _, m := range slices.Concat(now, then, []int{from}) {
				for _, early := range []int{m, m + 1} {
					if from <= early && early < at && safe(early) {
						t.Error(i, k, early, "is safe before", at)
					}
				}
			}
			if less, ok, _ := waits.Earliest(h, s, few, from, max(from, at-1)); ok && less != at {
				t.Error(i, k, less)
			}
			if same, ok, _ := waits.Earliest(h, s, few, from, at); at >= from && (!ok || same != at) {
				t.Error(i, k, same)
			}
			if late, ok, _ := waits.Earliest(h, s, more, from, 90); ok && late < at {
				t.Error(i, k, late, at)
			}
			if i == 0 && k > 0 && at == from {
				t.Error(i, k, "there is nothing to wait for")
			}
			h, _ = steps.Apply(h, []api.Step{{At: at, Stage: s}})
			from = at + 1
		}
	}
}

// P38.1: moments beyond the end, and the times that are looked at, by a reference.
func TestReference(t *testing.T) {
	z := sample.With(sample.Bare("x", 1, "h"), sample.Signed("w.x", 1, 10, sample.Nums(7)))
	z.Sets[2].Sigs = []api.Sig{{Zone: "x", Key: 1, Alg: 1, From: 3, Until: 43}}
	h := api.History{Hosts: sample.Hosts(), Copies: []api.Copy{{From: 1, Until: 45, Zone: z}}, Anchor: sample.Signed(".", 6, 5, sample.Nums(1, 1)).Set, Hints: []int{1}, Drift: 4, End: 48}
	if l, e := waits.Moments(h); e != api.OK || !slices.Equal(l, []int{1, 7, 40, 45, 48}) {
		t.Error(l, e)
	}
	plain := sample.Plain()
	asked := []api.Question{q("w.x", 1), q("w.y", 1)}
	for i, x := range []api.Wish{{Kind: 2, Zone: "x", Key: api.Key{N: 8, Alg: 1}}, {Kind: 1, Zone: "y", Hosts: []int{2}}, {Kind: 4, Zone: "x", Name: "w.x", Hosts: []int{2}, Key: api.Key{N: 9, Alg: 1}}} {
		h := plain
		stages := stagesOf(t, h, x)
		for k := range stages {
			for _, from := range []int{0, 3, 30, 190} {
				compare(t, h, stages[k], asked, from, i, k)
			}
			h, _ = steps.Apply(h, []api.Step{{At: 20 + 13*k, Stage: stages[k]}})
		}
	}
}

// compare compares Earliest with all times that are looked at.
func compare(t *testing.T, h api.History, s api.Stage, asked []api.Question, from, i, k int) {
	now, _ := waits.Moments(h)
	next, _ := steps.Apply(h, []api.Step{{At: from, Stage: s}})
	then, _ := waits.Moments(next)
	want, found := 0, false
	for at := from; at < h.End && !found; at++ {
		looked := at == from
		for _, m := range slices.Concat(now, then) {
			looked = looked || at == m || at == m+1
		}
		if !looked {
			continue
		}
		made, _ := steps.Apply(h, []api.Step{{At: at, Stage: s}})
		if _, ok, _ := prove.Prove(made, asked, at, h.End); ok {
			want, found = at, true
		}
	}
	got, ok, e := waits.Earliest(h, s, asked, from, h.End-1)
	if e != api.OK || ok != found || got != want {
		t.Error(i, k, from, got, ok, want, found, e)
	}
	if found {
		got, ok, e = waits.Earliest(h, s, asked, from, want)
		if e != api.OK || !ok || got != want {
			t.Error(i, k, from, got, e)
		}
		if want > from {
			if got, ok, e := waits.Earliest(h, s, asked, from, want-1); e != api.OK || ok || got != 0 {
				t.Error(i, k, from, got, e)
			}
		}
	}
}

// P38.1: too many sets, and questions that are wrong only for the proof.
func TestLimits(t *testing.T) {
	h := sample.Plain()
	for k := range 3 {
		z := sample.Bare("q", k+2, "s")
		for i := range 6700 {
			z.Sets = append(z.Sets, sample.Signed("n"+string([]byte{'a' + byte(i/676), 'a' + byte(i/26%26), 'a' + byte(i%26)})+".q", 1, k, sample.Nums(1)))
		}
		h.Copies = append(h.Copies, api.Copy{Host: k, Until: 20, Zone: z})
	}
	_, e := waits.Moments(h)
	n, f := waits.Longest(h, "q", 5)
	_, ok, g := waits.Earliest(h, api.Stage{}, nil, 5, 9)
	if e != api.ErrLimit || f != api.ErrLimit || n != 0 || g != api.ErrLimit || ok {
		t.Error(e, f, g)
	}
}

// P38.1: the moments of signatures that end before their set does.
func TestSignatures(t *testing.T) {
	z := sample.With(sample.Bare("x", 1, "h"), sample.Signed("w.x", 1, 10, sample.Nums(7)))
	z.Sets[2].Sigs = []api.Sig{{Zone: "x", Key: 1, Alg: 1, From: 3, Until: 25}}
	h := api.History{Hosts: sample.Hosts(), Copies: []api.Copy{{Until: 60, Zone: z}}, Anchor: sample.Signed(".", 6, 5, sample.Nums(1, 1)).Set, Hints: []int{1}, Drift: 2, End: 100}
	if l, e := waits.Moments(h); e != api.OK || !slices.Equal(l, []int{0, 5, 24, 28, 60, 73}) {
		t.Error(l, e)
	}
}
