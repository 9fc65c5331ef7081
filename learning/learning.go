// Package learning puts what an answer says into a cache. Layers 31, 32 and 33 use it.
package learning

import (
	"nameplan/api"
	"nameplan/cache"
	"nameplan/validate"
)

// change makes another cache of a cache.
type change func(api.Cache) (api.Cache, api.Errno)

// Learn returns a cache after an answer came from a zone: ErrFull, if there was no room at some time, or the error of an argument.
func Learn(c api.Cache, zone string, q api.Question, a api.Answer, now int) (api.Cache, api.Errno) {
	taken, e := validate.Filter(zone, q, a)
	if e != api.OK {
		return api.Cache{}, e
	}
	chain := []change{func(c api.Cache) (api.Cache, api.Errno) { return cache.Clean(c, now) }}
	for _, s := range taken {
		chain = append(chain, put(s, zone, now))
	}
	if life, ok := denial(a, taken); ok {
		chain = append(chain, func(c api.Cache) (api.Cache, api.Errno) { return cache.Deny(c, q, zone, life, now) })
	}
	for _, next := range chain {
		if c, e = next(c); e != api.OK {
			return api.Cache{}, e
		}
	}
	return c, api.OK
}

// put returns what puts a set into a cache, unless its signatures are not in form.
func put(s api.Signed, zone string, now int) change {
	return func(c api.Cache) (api.Cache, api.Errno) {
		out, e := cache.Put(c, s, zone, now)
		if e == api.ErrSign {
			return c, api.OK
		}
		return out, e
	}
}

// denial returns for how long an answer denies that there is a set, if it does.
func denial(a api.Answer, taken []api.Signed) (int, bool) {
	if a.Kind != api.AnsNoData && a.Kind != api.AnsNoName {
		return 0, false
	}
	for _, s := range taken {
		if s.Set.Type == api.TypeStart {
			return s.Set.Data[0].M, true
		}
	}
	return 0, false
}
