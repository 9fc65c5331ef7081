package court_test

import (
	"reflect"
	"slices"
	"testing"

	"nameplan/api"
	"nameplan/court"
	"nameplan/evidence"
	"nameplan/plan"
	"nameplan/prove"
	"nameplan/run"
	"nameplan/sample"
)

func q(n string, typ int) api.Question { return api.Question{Name: n, Type: typ} }

var asked = []api.Question{q("w.x", 1), q("w.y", 1)}

func claims(l []api.Step) []api.Claim {
	var out []api.Claim
	for _, s := range l {
		for _, p := range s.Stage.Puts {
			out = append(out, api.Claim{Host: p.Host, At: s.At, Zone: p.Zone})
		}
	}
	return out
}

// moved returns the evidence of a schedule that was carried out as planned: x goes from the host 1 to the hosts 2 and 3.
func moved(t *testing.T) api.Evidence {
	t.Helper()
	h := sample.Plain()
	l, e := plan.Plan(h, api.Wish{Kind: 1, Zone: "x", Hosts: []int{2, 3}}, asked, 5, 80)
	if e != api.OK || len(l) != 3 {
		t.Fatal(e)
	}
	return api.Evidence{Before: h, Steps: l, Claims: claims(l)}
}

func judge(t *testing.T, e api.Evidence, want api.Judgement) {
	t.Helper()
	j, err := court.Judge(e, asked)
	if err != api.OK || !court.Check(e, asked, j) {
		t.Fatal(err)
	}
	for i, change := range []func(j *api.Judgement){func(j *api.Judgement) { j.Kind++ }, func(j *api.Judgement) { j.Who++ }, func(j *api.Judgement) { j.Step++ }, func(j *api.Judgement) { j.At++ }, func(j *api.Judgement) { j.Show.Set.Life++ }} {
		x := j
		change(&x)
		if court.Check(e, asked, x) {
			t.Error("checked", i)
		}
	}
	if want.Show.Set.Type == 0 {
		j.Show = api.Signed{}
	}
	if !reflect.DeepEqual(j, want) {
		t.Errorf("%v, but %v", j, want)
	}
}

func resolve(t *testing.T, h api.History, x api.Question, at int) api.Transcript {
	t.Helper()
	y, _, e := run.Resolve(h, api.Cache{}, x, at, nil)
	if e != api.OK {
		t.Fatal(e)
	}
	return y
}

// P44.2, P44.3: as planned, nobody is named.
func TestHonest(t *testing.T) {
	e := moved(t)
	claimed, _ := evidence.Claimed(e)
	for at := 6; at < 100; at += 9 {
		for _, x := range asked {
			e.Transcripts = append(e.Transcripts, resolve(t, claimed, x, at))
		}
	}
	judge(t, e, api.Judgement{})
	e.Steps, e.Claims, e.Transcripts = nil, nil, nil
	e.Before.Drift = 0
	judge(t, e, api.Judgement{})
}

// P44.1, P44.4, P44.6, P44.7: departures, in their order.
func TestDepartures(t *testing.T) {
	e := moved(t)
	owner := func(host int) int { return e.Before.Hosts[host].Owner }
	second := e.Steps[1]
	late := moved(t)
	for i, c := range late.Claims {
		if c.At == second.At && c.Host == 2 {
			late.Claims[i].At++
		}
	}
	slices.SortStableFunc(late.Claims, func(a, b api.Claim) int { return a.At - b.At })
	judge(t, late, api.Judgement{Kind: 1, Who: owner(2), Step: 1, At: second.At})
	j, _ := court.Judge(late, asked)
	if j.Show.Set.Type != 4 || j.Show.Set.Name != "x" {
		t.Error(j.Show)
	}
	none := moved(t)
	none.Claims = nil
	judge(t, none, api.Judgement{Kind: 1, Who: owner(2), Step: 0, At: e.Steps[0].At})
	more := moved(t)
	more.Claims = append(more.Claims, api.Claim{Host: 3, At: 150, Zone: api.Zone{Apex: "y"}})
	judge(t, more, api.Judgement{Kind: 1, Who: owner(3), Step: 3, At: 150})
	early := moved(t)
	early.Claims = append([]api.Claim{{Host: 0, At: 2, Zone: sample.Bare("q", 3, "s")}}, early.Claims...)
	judge(t, early, api.Judgement{Kind: 1, Who: owner(0), Step: 0, At: 2})
	other := moved(t)
	other.Claims = slices.Clone(other.Claims)
	other.Claims[0].Zone = sample.Numbered(other.Claims[0].Zone, 9)
	judge(t, other, api.Judgement{Kind: 1, Who: owner(2), Step: 0, At: e.Steps[0].At})
	if j, _ := court.Judge(other, asked); j.Show.Set.Data[0].N == 9 {
		t.Error("the Put comes before the claim")
	}
	if stop := moved(t); len(stop.Steps[2].Stage.Puts[0].Zone.Sets) == 0 {
		stop.Claims = slices.DeleteFunc(stop.Claims, func(c api.Claim) bool { return len(c.Zone.Sets) == 0 })
		judge(t, stop, api.Judgement{Kind: 1, Who: owner(1), Step: 2, At: e.Steps[2].At})
	}
}

// P44.1: a schedule that is not safe comes first.
func TestPlan(t *testing.T) {
	e := moved(t)
	e.Steps = []api.Step{e.Steps[2]}
	e.Claims = nil
	j, err := court.Judge(e, asked)
	if err != api.OK || j.Kind != api.GuiltPlan || j.At != e.Steps[0].At || j.Who+j.Step != 0 {
		t.Error(j, err)
	}
	if j, err := court.Judge(e, nil); err != api.OK || j.Kind != api.GuiltOperator {
		t.Error(j, err)
	}
}

// P44.1, P44.5: resolvers, the net, and liars.
func TestTranscripts(t *testing.T) {
	e := moved(t)
	claimed, _ := evidence.Claimed(e)
	at := e.Steps[1].At + 5
	good := resolve(t, claimed, asked[0], at)
	wrong := good
	wrong.Result = api.Verdict{Kind: api.Bogus}
	bad := e
	bad.Transcripts = []api.Transcript{good, wrong}
	bad.Claims = nil
	judge(t, bad, api.Judgement{Kind: 4, Step: 1, At: at})

	// an answer that nobody said: the resolver is right, by what it heard
	forged := good
	forged.Heard = slices.Clone(good.Heard[:1])
	forged.Heard[0].Answer = api.Answer{Kind: api.AnsNoName}
	h := e.Before
	v, _, _ := run.Resolve(api.History{Hosts: h.Hosts, Anchor: h.Anchor, Hints: h.Hints, Drift: h.Drift, End: h.End}, api.Cache{}, asked[0], at, nil)
	forged.Result = v.Result
	net := e
	net.Transcripts = []api.Transcript{good, forged}
	judge(t, net, api.Judgement{Kind: 3, Step: 1, At: at})

	// the host 2 answered as planned, but denies it
	liar := e
	liar.Claims = slices.DeleteFunc(slices.Clone(e.Claims), func(c api.Claim) bool { return c.Host == 2 })
	planned, _ := evidence.Planned(e)
	told := resolve(t, planned, q("x", 4), at)
	k := slices.IndexFunc(told.Heard, func(x api.Heard) bool { return x.Addr == 3 || x.Addr == 4 })
	if k < 0 {
		t.Fatal("nobody of x was asked")
	}
	only := e
	only.Claims = slices.DeleteFunc(slices.Clone(e.Claims), func(c api.Claim) bool { return c.Host >= 1 })
	only.Transcripts = []api.Transcript{told}
	j, err := court.Judge(only, asked)
	if err != api.OK || j.Kind != api.GuiltLiar || j.Who != told.Heard[k].Addr-1 || j.At != at || j.Show.Set.Type == 0 {
		t.Error(j, err, told.Heard[k].Addr)
	}
	liar.Transcripts = []api.Transcript{good}
	if j, err := court.Judge(liar, asked); err != api.OK || j.Kind == api.GuiltResolver || j.Kind == api.GuiltPlan {
		t.Error(j, err)
	}
}

// P1: errors.
func TestErrors(t *testing.T) {
	e := moved(t)
	bad := e
	bad.Claims = slices.Repeat(e.Claims, 2)
	for i, c := range []struct {
		e    api.Evidence
		l    []api.Question
		want api.Errno
	}{{bad, asked, api.ErrArg}, {e, slices.Repeat(asked, 26), api.ErrArg}, {e, []api.Question{{}}, api.ErrArg}} {
		if j, err := court.Judge(c.e, c.l); err != c.want || j.Kind != 0 || court.Check(c.e, c.l, j) {
			t.Error(i, err)
		}
	}
	many := e
	many.Claims = nil
	many.Before.End = 1000
	many.Before.Copies = slices.Clone(e.Before.Copies)
	for i := range 401 {
		many.Claims = append(many.Claims, api.Claim{At: i, Zone: api.Zone{Apex: "q"}})
	}
	if j, err := court.Judge(many, asked); err != api.ErrLimit || j.Kind != 0 {
		t.Error(err)
	}
}

// P44.1: the order of departures, what is shown, and the edges of questions.
func TestMore(t *testing.T) {
	h := sample.Plain()
	h.Drift = 0
	z := func(apex string, n int) api.Zone { return sample.Bare(apex, n, "s") }
	s := []api.Step{{At: 20, Stage: api.Stage{Puts: []api.Placed{{Host: 3, Zone: z("q", 1)}, {Host: 2, Zone: z("v", 1)}, {Host: 2, Zone: z("q", 1)}}}}, {At: 40, Stage: api.Stage{Puts: []api.Placed{{Host: 3, Zone: z("v", 1)}}}}}
	claim := func(host, at int, x api.Zone) api.Claim { return api.Claim{Host: host, At: at, Zone: x} }
	full := claims(s)
	for i, c := range []struct {
		l    []api.Claim
		want api.Judgement
		apex string
		n    int
	}{
		{full, api.Judgement{}, "", 0},
		{full[1:], api.Judgement{Kind: 1, Who: 3, Step: 0, At: 20}, "q", 1}, {nil, api.Judgement{Kind: 1, Who: 2, Step: 0, At: 20}, "q", 1}, {full[:3], api.Judgement{Kind: 1, Who: 3, Step: 1, At: 40}, "v", 1},
		{[]api.Claim{full[0], claim(2, 20, z("v", 9)), full[2], full[3]}, api.Judgement{Kind: 1, Who: 2, Step: 0, At: 20}, "v", 1},
		{[]api.Claim{claim(0, 20, z("v", 9)), full[0], full[1], full[2], full[3]}, api.Judgement{Kind: 1, Who: 0, Step: 0, At: 20}, "v", 9},
		{[]api.Claim{full[0], full[1], full[2], claim(1, 30, z("k", 4)), full[3]}, api.Judgement{Kind: 1, Who: 1, Step: 1, At: 30}, "k", 4},
		{[]api.Claim{full[0], full[1], full[2], claim(1, 30, api.Zone{Apex: "k"}), full[3]}, api.Judgement{Kind: 1, Who: 1, Step: 1, At: 30}, "", 0},
		{[]api.Claim{claim(1, 3, z("k", 4)), full[0], full[1], full[2], full[3]}, api.Judgement{Kind: 1, Who: 1, Step: 0, At: 3}, "k", 4},
		{[]api.Claim{full[0], full[1], claim(2, 21, z("q", 1)), full[3]}, api.Judgement{Kind: 1, Who: 2, Step: 0, At: 20}, "q", 1},
	} {
		e := api.Evidence{Before: h, Steps: s, Claims: c.l}
		j, err := court.Judge(e, nil)
		show := j.Show
		j.Show = api.Signed{}
		if err != api.OK || !reflect.DeepEqual(j, c.want) || show.Set.Name != c.apex || c.apex != "" && (show.Set.Type != 4 || show.Set.Data[0].N != c.n) {
			t.Error(i, j, show, err)
		}
	}
	e := api.Evidence{Before: h, Steps: s, Claims: full}
	fifty := slices.Repeat(asked, 25)
	for i, c := range []struct {
		l    []api.Question
		want api.Errno
	}{{fifty, api.OK}, {append(fifty, asked[0]), api.ErrArg}, {[]api.Question{q("w.x", 0)}, api.ErrArg}, {[]api.Question{q("w.x", 9)}, api.ErrArg}, {[]api.Question{q("x", 8)}, api.OK}, {[]api.Question{asked[0], q("X", 1)}, api.ErrArg}} {
		if _, err := court.Judge(e, c.l); err != c.want {
			t.Error(i, err)
		}
	}
	crowd := e
	crowd.Before.End, crowd.Claims = 1000, nil
	for i := range 401 {
		crowd.Claims = append(crowd.Claims, claim(0, i, api.Zone{Apex: "q"}))
	}
	if _, err := court.Judge(crowd, []api.Question{q("w.x", 9)}); err != api.ErrArg {
		t.Error(err)
	}
	if _, err := court.Judge(crowd, append(fifty, asked[0])); err != api.ErrArg {
		t.Error(err)
	}
}

// P44.1: what a schedule that is not safe shows, from the first step on, or from 0.
func TestShow(t *testing.T) {
	h := sample.Plain()
	j, err := court.Judge(api.Evidence{Before: h}, asked)
	if err != api.OK || j.Kind != api.GuiltPlan || j.At != 0 || len(j.Show.Set.Data) == 0 || len(j.Show.Sigs) == 0 {
		t.Error(j, err)
	}
	later := api.Evidence{Before: h, Steps: []api.Step{{At: 7}}}
	if j, err := court.Judge(later, asked); err != api.OK || j.Kind != api.GuiltNone {
		t.Error(j, err)
	}
	stop := api.Evidence{Before: h, Steps: []api.Step{{At: 7, Stage: api.Stage{Puts: []api.Placed{{Host: 1, Zone: api.Zone{Apex: "x"}}}}}}}
	x, _, e := prove.Prove(planned(t, stop), asked, 7, h.End)
	j, err = court.Judge(stop, asked)
	if e != api.OK || err != api.OK || j.Kind != api.GuiltPlan || j.At != x.Span.From || len(x.Two.Set.Data) > 0 || j.Show.Set.Name != x.One.Set.Name || j.Show.Set.Type != x.One.Set.Type {
		t.Error(j, x, err)
	}
	rolled := api.Evidence{Before: sample.Rolled()}
	j, err = court.Judge(rolled, []api.Question{q("x", 4)})
	if err != api.OK || j.Kind != api.GuiltPlan || j.At != 50 || j.Show.Set.Type != 7 || j.Show.Set.Data[0].N != 4 {
		t.Error(j, err)
	}
	j.Show.Set.Data[0].N = 99
	if again, _ := court.Judge(rolled, []api.Question{q("x", 4)}); again.Show.Set.Data[0].N != 4 {
		t.Error("shared memory")
	}
}

func planned(t *testing.T, e api.Evidence) api.History {
	h, err := evidence.Planned(e)
	if err != api.OK {
		t.Fatal(err)
	}
	return h
}
