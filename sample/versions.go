package sample

import (
	"nameplan/api"
	"nameplan/zone"
)

// Numbered returns a zone with another serial number.
func Numbered(z api.Zone, n int) api.Zone {
	s, _, _ := zone.Find(z, api.Question{Name: z.Apex, Type: api.TypeStart})
	s.Set.Data[0].N = n
	return With(z, s)
}

// Versions makes some versions of a zone, from a serial number on.
func (d *Dice) Versions(apex string, count, serial int) []api.Zone {
	var l []api.Zone
	for i := range count {
		l = append(l, Numbered(d.Zone(apex), (serial+i)%api.MaxSerial))
	}
	return l
}
