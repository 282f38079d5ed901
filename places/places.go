// Package places finds where the events of a score are, for all layers that look up the ends of spanners.
package places

import (
	"hemiola/api"
	"hemiola/measure"
	"hemiola/spanner"
)

// Of returns the places of all events by their ids, if all measures of a score can be measured and all ids are different.
func Of(s api.Score) map[api.ID]spanner.Place {
	l := map[api.ID]spanner.Place{}
	for i, m := range s.Measures {
		slots, _ := measure.Slots(m)
		for _, x := range slots {
			id := m.Cells[x.Staff].Voices[x.Voice].Events[x.Event].ID
			l[id] = spanner.Place{Measure: i, At: x.On, Staff: x.Staff, Voice: x.Voice}
		}
	}
	return l
}
