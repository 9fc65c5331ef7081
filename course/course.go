// Package course is the course of a validating resolver. Layers 31 and 33 use it.
package course

import (
	"slices"

	"nameplan/api"
	"nameplan/cache"
	"nameplan/iterate"
	"nameplan/learning"
	"nameplan/name"
	"nameplan/seek"
	"nameplan/validate"
	"nameplan/value"
)

// Setting is what a resolver is given: the anchor and the hints of the root, and by how much clocks may be wrong.
type Setting struct {
	Anchor api.Set
	Hints  []int
	Drift  int
}

// Ask is what is asked next: a question, and the addresses that were not asked yet.
type Ask struct {
	Zone string
	Left []int
	Q    api.Question
}

// Course is what a resolver does for a question.
type Course struct {
	Setting
	q     api.Question
	at    int
	cache api.Cache
	known []api.Signed
	asked map[int]bool // since the known sets were others
	count int
}

// ended is the panic that ends a course with its result.
type ended struct{ result api.Verdict }

// New returns a course that begins; all arguments are valid.
func New(s Setting, q api.Question, at int, c api.Cache) *Course {
	x := &Course{Setting: s, q: q, at: at, asked: map[int]bool{}}
	x.cache, _ = cache.Clean(c, at)
	x.known, _ = cache.Known(x.cache, at)
	return x
}

// Cache returns the cache as it is now.
func (c *Course) Cache() api.Cache { return c.cache }

// Count returns how many addresses were asked.
func (c *Course) Count() int { return c.count }

// Step returns what is asked next, or the result and true.
func (c *Course) Step() (ask Ask, result api.Verdict, done bool) {
	defer func() {
		if x := recover(); x != nil {
			e, is := x.(ended)
			if !is {
				panic(x)
			}
			ask, result, done = Ask{}, e.result, true
		}
	}()
	needed := c.needed()
	next := c.next(needed)
	dark := ended{api.Verdict{Kind: api.Missing, Q: needed}}
	if next.Kind != api.NeedAsk {
		panic(dark)
	}
	left := slices.DeleteFunc(slices.Clone(next.Addrs), func(n int) bool { return c.asked[n] })
	if len(left) == 0 || c.count == api.MaxHops {
		panic(dark)
	}
	return Ask{Zone: next.Zone, Left: left, Q: next.Q}, api.Verdict{}, false
}

// needed returns the question that is needed, or ends the course.
func (c *Course) needed() api.Question {
	v, e := validate.Judge(c.known, c.Anchor, c.q, c.at, c.Drift)
	if e != api.OK {
		panic(ended{api.Verdict{Kind: api.Missing, Q: c.q}})
	}
	if v.Kind != api.Missing {
		panic(ended{v})
	}
	return v.Q
}

// next returns what is asked for a question. What is known, but does not count, is asked for all the same.
func (c *Course) next(q api.Question) api.Next {
	n, _ := iterate.Ask(c.known, c.Hints, q)
	if n.Kind == api.NeedDone {
		return seek.New(c.known).Next(c.Hints, q)
	}
	return n
}

// Hear notes down what an address answered that was asked; the zero answer means that nobody was there.
func (c *Course) Hear(x Ask, addr int, a api.Answer) {
	c.asked[addr] = true
	c.count++
	zone, ok := origin(x, a)
	if !ok {
		return
	}
	out, e := learning.Learn(c.cache, zone, x.Q, a, c.at)
	if e != api.OK {
		return
	}
	c.cache = out
	known, _ := cache.Known(out, c.at)
	if !value.SameSigneds(known, c.known) {
		c.known = known
		c.asked = map[int]bool{}
	}
}

// origin returns the zone from which an answer comes, unless nothing is learned of it.
func origin(x Ask, a api.Answer) (string, bool) {
	if a.Kind == 0 {
		return "", false
	}
	l, _ := validate.Filter(x.Zone, x.Q, a)
	for _, s := range l {
		if len(s.Sigs) > 0 {
			in, _ := name.Under(s.Sigs[0].Zone, x.Zone)
			return s.Sigs[0].Zone, in
		}
	}
	return x.Zone, true
}
