package console

import (
	"slices"

	"nameplan/api"
	"nameplan/court"
	"nameplan/lame"
	"nameplan/plan"
	"nameplan/prove"
	"nameplan/run"
	"nameplan/world"
)

// listZones writes the zones of the source.
func (c *console) listZones(words []string) {
	arguments(words)
	out := []string{"zones"}
	for _, z := range c.zones {
		out = append(out, z.Apex)
	}
	c.write(out...)
}

// truth writes what the zones say.
func (c *console) truth(words []string) {
	t := 0
	var q api.Question
	arguments(words, number(&t), text(&q.Name), kind(&q.Type))
	a, e := world.Truth(c.world(t), q)
	switch e {
	case api.ErrDark:
		c.write("truth", "dark")
	case api.ErrLoop:
		c.write("truth", "loop")
	default:
		check(e)
		c.write(slices.Concat([]string{"truth", answerWords[a.Kind]}, sets(a.Sets))...)
	}
}

// findings writes what is wrong with servers and glue.
func (c *console) findings(words []string) {
	t := 0
	arguments(words, number(&t))
	l, e := lame.Findings(c.world(t))
	check(e)
	out := []string{"findings"}
	for _, f := range l {
		out = append(out, findingWords[f.Kind]+":"+f.Zone+":"+f.Name)
	}
	c.write(out...)
}

// ask lets a resolver run.
func (c *console) ask(words []string) {
	t := 0
	var q api.Question
	arguments(words, number(&t), text(&q.Name), kind(&q.Type))
	x, after, e := run.Resolve(c.history, c.cache, q, t, nil)
	check(e)
	c.cache = after
	c.heard = append(c.heard, x)
	c.write(slices.Concat([]string{"ask", verdictWords[x.Result.Kind], decimal(len(x.Heard))}, sets(x.Result.Sets))...)
}

// prove writes whether the protected questions are resolved.
func (c *console) prove(words []string) {
	from, until := 0, 0
	arguments(words, number(&from), number(&until))
	x, ok, e := prove.Prove(c.history, c.asked, from, until)
	check(e)
	if ok {
		c.write("prove", "accepted")
		return
	}
	c.write(slices.Concat([]string{"prove"}, clash(x), []string{decimal(x.Span.From), decimal(x.Span.Until)})...)
}

// wish reads a wish.
func wish(words []string) api.Wish {
	need(len(words) > 0, api.ErrSyntax)
	var x api.Wish
	rest := words[1:]
	few := func(n int) []string {
		need(len(rest) >= n, api.ErrSyntax)
		return rest[:n]
	}
	switch words[0] {
	case "keys":
		x.Kind = api.WishKeys
		arguments(rest, text(&x.Zone), number(&x.Key.N), number(&x.Key.Alg))
	case "move":
		x.Kind = api.WishMove
		arguments(few(1), text(&x.Zone))
		x.Hosts = numbers(rest[1:])
	case "addr":
		x.Kind = api.WishAddr
		x.Hosts = []int{0}
		arguments(rest, text(&x.Zone), text(&x.Name), number(&x.Hosts[0]))
	case "split":
		x.Kind = api.WishSplit
		arguments(few(4), text(&x.Zone), text(&x.Name), number(&x.Key.N), number(&x.Key.Alg))
		x.Hosts = numbers(rest[4:])
	default:
		need(false, api.ErrSyntax)
	}
	return x
}

// plan plans a wish.
func (c *console) plan(words []string) {
	from, limit := 0, 0
	need(len(words) > 2, api.ErrSyntax)
	arguments(words[:2], number(&from), number(&limit))
	x := wish(words[2:])
	l, e := plan.Plan(c.history, x, c.asked, from, limit)
	if e != api.ErrLate {
		check(e)
		c.planned = l
		out := []string{"plan"}
		for _, s := range l {
			out = append(out, decimal(s.At))
		}
		c.write(out...)
		return
	}
	c.planned = nil
	stage, why, e := plan.Refuse(c.history, x, c.asked, from, limit)
	check(e)
	out := []string{"plan", "refused", decimal(stage)}
	if why.Kind != 0 {
		out = append(out, clash(why)...)
	}
	c.write(out...)
}

// judge writes who broke a name.
func (c *console) judge(words []string) {
	arguments(words)
	before := c.history
	if c.done {
		before = c.before
	}
	e := api.Evidence{Before: before, Steps: c.carried, Claims: c.claims, Transcripts: c.heard}
	j, err := court.Judge(e, c.asked)
	check(err)
	c.write("judge", guiltWords[j.Kind], decimal(j.Who), decimal(j.Step), decimal(j.At))
}
