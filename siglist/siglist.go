// Package siglist says which lists of signatures are in form for an apex.
package siglist

import "nameplan/api"

// InForm reports whether signatures are in form for an apex.
func InForm(l []api.Sig, apex string) bool {
	if len(l) > api.MaxSigs {
		return false
	}
	for i, g := range l {
		if g.Zone != apex || g.Key < 1 || g.Key > api.MaxKey || g.Alg < 1 || g.Alg > api.MaxAlg {
			return false
		}
		if g.From != l[0].From || g.Until != l[0].Until || i > 0 && g.Key <= l[i-1].Key {
			return false
		}
		if g.From < 0 || g.From > g.Until || g.Until > 2*api.MaxTime {
			return false
		}
	}
	return true
}
