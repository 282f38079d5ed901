package places

import (
	"maps"
	"testing"

	"hemiola/api"
	"hemiola/spanner"
)

// rest returns a rest with an id.
func rest(n, log int) api.Event {
	return api.Event{ID: api.ID{Site: 3, Number: n}, Kind: api.Rest, Value: api.Value{Log: log}}
}

func TestOf(t *testing.T) {
	const quarter = 483840
	cell := func(voices ...api.Voice) api.Cell { return api.Cell{Voices: voices} }
	half := api.Metre{Count: 2, Unit: 4}
	s := api.Score{Measures: []api.Measure{
		{ID: api.ID{Number: 1}, Metre: half, Cells: []api.Cell{
			cell(api.Voice{Events: []api.Event{rest(1, 2), rest(2, 2)}}, api.Voice{Events: []api.Event{rest(3, 1)}}),
			cell(api.Voice{Events: []api.Event{rest(4, 2), rest(5, 2), rest(6, 2)}, Tuplets: []api.Tuplet{{Count: 3, Actual: 3, Normal: 2}}}),
		}},
		{Metre: half, Length: quarter, Cells: []api.Cell{
			cell(api.Voice{Events: []api.Event{{ID: api.ID{Number: 7}, Kind: api.MeasureRest}}}),
			cell(api.Voice{Events: []api.Event{rest(8, 3), rest(9, 3)}}),
		}},
	}}
	id := func(n int) api.ID { return api.ID{Site: 3, Number: n} }
	want := map[api.ID]spanner.Place{
		id(1): {}, id(2): {At: quarter}, id(3): {Voice: 1},
		id(4): {Staff: 1}, id(5): {Staff: 1, At: 322560}, id(6): {Staff: 1, At: 645120},
		{Number: 7}: {Measure: 1}, id(8): {Measure: 1, Staff: 1}, id(9): {Measure: 1, Staff: 1, At: quarter / 2},
	}
	if got := Of(s); !maps.Equal(got, want) {
		t.Errorf("Of = %v; want %v", got, want)
	}
	if got := Of(api.Score{}); len(got) != 0 {
		t.Error(got)
	}
	// measures that cannot be measured have no places
	s.Measures[0].Length = -1
	if got := Of(s); len(got) != 3 {
		t.Error(got)
	}
}
