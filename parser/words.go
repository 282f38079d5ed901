package parser

import (
	"maps"
	"slices"
	"strings"

	"hemiola/api"
	"hemiola/clef"
)

// structure are the words that stand for themselves in the grammar.
const structure = "score written last part transpose staff measure metre length key repeat times endings jump segno coda fine tocoda swing break mark tempo ramp clef grace"

// words are the words and names that may stand at certain places, with their numbers.
type words struct {
	clefs, jumps, breaks, marks, spanners map[string]int
}

func vocabulary() words {
	return words{clefs: clefs(), jumps: jumps(), breaks: breaks(), marks: marks(), spanners: spanners()}
}

func clefs() map[string]int {
	m := map[string]int{}
	for n := clef.Treble; n <= clef.NumClefs; n++ {
		name, _ := clef.Name(n)
		m[name] = n
	}
	return m
}

func jumps() map[string]int {
	return map[string]int{
		"dacapo": api.DaCapo, "dacapofine": api.DaCapoFine, "dacapocoda": api.DaCapoCoda,
		"dalsegno": api.DalSegno, "dalsegnofine": api.DalSegnoFine, "dalsegnocoda": api.DalSegnoCoda,
	}
}

func breaks() map[string]int {
	return map[string]int{"system": api.BreakSystem, "page": api.BreakPage, "never": api.BreakNever}
}

func spanners() map[string]int {
	return map[string]int{
		"slur": api.Slur, "crescendo": api.Crescendo, "diminuendo": api.Diminuendo,
		"octaveup": api.OctaveUp, "octavedown": api.OctaveDown, "pedal": api.Pedal, "trill": api.TrillLine,
	}
}

// The groups of the words in brackets. The number of a word is that of its group plus the value that it stands for, which is less than groupSize; so the numbers increase in the order in which the words may stand.
const (
	groupSize    = 32
	articulation = 0 * groupSize
	ornament     = 1 * groupSize
	dynamic      = 2 * groupSize
	stem         = 3 * groupSize
	beam         = 4 * groupSize
)

func marks() map[string]int {
	return map[string]int{
		"staccato": articulation + api.Staccato, "tenuto": articulation + api.Tenuto, "accent": articulation + api.Accent,
		"marcato": articulation + api.Marcato, "fermata": articulation + api.Fermata,
		"trill": ornament + api.Trill, "mordent": ornament + api.Mordent, "inverse": ornament + api.Inverse, "turn": ornament + api.Turn,
		"ppp": dynamic + api.DynamicPPP, "pp": dynamic + 2, "p": dynamic + 3, "mp": dynamic + 4, "mf": dynamic + 5,
		"f": dynamic + 6, "ff": dynamic + 7, "fff": dynamic + 8, "sfz": dynamic + api.DynamicSfz,
		"up": stem + api.StemUp, "down": stem + api.StemDown,
		"apart": beam + api.BeamBreak, "join": beam + api.BeamJoin,
	}
}

// Keywords returns the words with a meaning, in increasing order.
func Keywords() []string {
	l := strings.Fields(structure)
	for _, m := range []map[string]int{jumps(), breaks(), marks(), spanners()} {
		l = slices.AppendSeq(l, maps.Keys(m))
	}
	slices.Sort(l)
	return slices.Compact(l)
}
