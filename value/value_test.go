package value_test

import (
	"reflect"
	"testing"

	"nameplan/api"
	"nameplan/value"
)

// Copies are equal, and share no memory; zones that differ anywhere are not equal.
func TestCopies(t *testing.T) {
	set := api.Set{Name: "x", Type: 1, Life: 5, Data: []api.Datum{{N: 7}}}
	z := api.Zone{Apex: "x", Sets: []api.Signed{{Set: set, Sigs: []api.Sig{{Key: 3}}}}}
	for i, change := range []func(z *api.Zone){
		func(z *api.Zone) { z.Apex = "y" }, func(z *api.Zone) { z.Sets[0].Set.Name = "y" }, func(z *api.Zone) { z.Sets[0].Set.Type = 2 },
		func(z *api.Zone) { z.Sets[0].Set.Life = 2 }, func(z *api.Zone) { z.Sets[0].Set.Data[0].N = 2 }, func(z *api.Zone) { z.Sets[0].Sigs[0].Key = 2 }, func(z *api.Zone) { z.Sets = nil },
	} {
		c := value.Zone(z)
		if !value.SameZone(z, c) || !reflect.DeepEqual(z, c) {
			t.Error(c)
		}
		change(&c)
		if value.SameZone(z, c) || z.Apex != "x" || z.Sets[0].Set.Data[0].N != 7 || z.Sets[0].Sigs[0].Key != 3 {
			t.Errorf("change %d: %v %v", i, z, c)
		}
	}
}
