// Package owned tells the own sets of a valid zone from servers of cuts, and glue.
package owned

import (
	"nameplan/api"
	"nameplan/name"
)

// Sets tells of each set of a valid zone whether it is an own set. What is behind a cut follows it.
func Sets(z api.Zone) []bool {
	cuts := map[string]bool{}
	for _, s := range z.Sets {
		if s.Set.Type == api.TypeServer && s.Set.Name != z.Apex {
			cuts[s.Set.Name] = true
		}
	}
	out := make([]bool, len(z.Sets))
	cut := ""
	for i, s := range z.Sets {
		if in, _ := name.Under(s.Set.Name, cut); cut != "" && !in {
			cut = ""
		}
		if cuts[s.Set.Name] {
			cut = s.Set.Name
		}
		foreign := cut != "" && (s.Set.Type == api.TypeAddr || s.Set.Type == api.TypeServer)
		out[i] = !foreign
	}
	return out
}
