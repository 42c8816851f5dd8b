package tests

import (
	"math"
	"math/rand/v2"
	"slices"
	"strings"
	"testing"

	"loop.example/musicengine/impl"
)

// chordHalves are the chapter's half tones from the root up to the tones, for each kind in order, written out again so that the tests do not depend on the program's table.
var chordHalves = [][]int{
	{0, 4, 7}, {0, 3, 7}, {0, 3, 6}, {0, 4, 8},
	{0, 4, 7, 10}, {0, 4, 7, 11}, {0, 3, 7, 10}, {0, 3, 6, 10}, {0, 3, 6, 9},
}

// named is what a chord is called: its root in octave 4, and its kind.
type named struct {
	root impl.Pitch
	kind int
}

// pitchesOf reads pitches, divided by spaces.
func pitchesOf(t *testing.T, text string) []impl.Pitch {
	t.Helper()
	var list []impl.Pitch
	for _, word := range strings.Fields(text) {
		list = append(list, readPitch(t, word))
	}
	return list
}

// pitchesText is the text that pitchesOf reads.
func pitchesText(list []impl.Pitch) string {
	var words []string
	for _, p := range list {
		words = append(words, expectedText(p))
	}
	return strings.Join(words, " ")
}

// badKinds are below ChordMajor or beyond ChordDimSeven.
func badKinds() []int {
	list := append([]int{1 << 8, 1 << 16, 1<<32 + 1, -1<<32 + 1, 1<<62 + 8, math.MinInt + 8, math.MaxInt - 8}, farNumbers...)
	for distance := range 50 {
		list = append(list, -1-distance, 9+distance)
	}
	return list
}

// chordFrom is the chord on a valid pitch, counted without the program.
func chordFrom(root impl.Pitch, kind int) ([]impl.Pitch, bool) {
	var chord []impl.Pitch
	for number, halves := range chordHalves[kind] {
		tone, ok := movedPitch(root, impl.Interval{Steps: 2 * number, Halves: halves})
		if !ok {
			return nil, false
		}
		chord = append(chord, tone)
	}
	return chord, true
}

// allTones are the pitches in octave 4, one for each step and alteration.
func allTones() []impl.Pitch {
	return slices.DeleteFunc(allPitches(), func(p impl.Pitch) bool { return p.Octave != 4 })
}

// spelling is the set of the steps and alterations of pitches: one bit stands for each of the 35.
func spelling(list []impl.Pitch) uint64 {
	var set uint64
	for _, p := range list {
		set |= 1 << (5*p.Step + p.Alter + 2)
	}
	return set
}

// chordNames are the names of all chords, by their spelling, counted without the program.
func chordNames(t *testing.T) map[uint64]named {
	t.Helper()
	names := map[uint64]named{}
	count := 0
	for _, root := range allTones() {
		for kind := range chordHalves {
			if chord, ok := chordFrom(root, kind); ok {
				names[spelling(chord)] = named{root, kind}
				count++
			}
		}
	}
	// No two chords are spelled alike, so that their order never decides.
	if len(names) != count || count < 200 {
		t.Fatal(len(names), count)
	}
	return names
}

// lowestIn is the first one of pitches with the least key.
func lowestIn(list []impl.Pitch) impl.Pitch {
	return slices.MinFunc(list, func(a impl.Pitch, b impl.Pitch) int { return keyOf(a) - keyOf(b) })
}

// checkNamed fails unless a list is given this name, and its lowest tone is the one with this number.
func checkNamed(t *testing.T, list []impl.Pitch, name named, number int) {
	t.Helper()
	root, kind, low, ok := impl.NameChord(list)
	if !ok || root != name.root || kind != name.kind || low != number {
		t.Fatal(pitchesText(list), root, kind, low, ok, name, number)
	}
}

// checkNameless fails unless a list, which may be invalid, is given no name.
func checkNameless(t *testing.T, list []impl.Pitch) {
	t.Helper()
	if root, kind, low, ok := impl.NameChord(list); ok || root != (impl.Pitch{}) || kind != -1 || low != -1 {
		t.Fatal(list, root, kind, low, ok)
	}
}

// checkName fails unless valid pitches, 1 to 12 of them, are given the name that they have among names. It returns whether they have one.
func checkName(t *testing.T, names map[uint64]named, list []impl.Pitch) bool {
	t.Helper()
	name, ok := names[spelling(list)]
	if !ok {
		checkNameless(t, list)
		return false
	}
	chord, _ := chordFrom(name.root, name.kind)
	lowest := lowestIn(list)
	checkNamed(t, list, name, slices.IndexFunc(chord, func(p impl.Pitch) bool { return sameTone(p, lowest) }))
	return true
}

// eachChord calls a function with every chord whose tones are all valid, and with its name.
func eachChord(t *testing.T, try func(chord []impl.Pitch, name named)) {
	t.Helper()
	for _, root := range allPitches() {
		for kind := range chordHalves {
			if chord, ok := chordFrom(root, kind); ok {
				try(chord, named{impl.Pitch{Step: root.Step, Alter: root.Alter, Octave: 4}, kind})
			}
		}
	}
}

// eachTones calls a function with the tones of every chord in octave 4, upwards from its root, and with its name.
func eachTones(t *testing.T, try func(tones []impl.Pitch, name named)) {
	t.Helper()
	for _, name := range chordNames(t) {
		chord, _ := chordFrom(name.root, name.kind)
		for number := range chord {
			chord[number].Octave = 4
		}
		try(chord, name)
	}
}

// eachSet calls a function with every set of so many pitches. The set is valid only during the call.
func eachSet(pitches []impl.Pitch, count int, try func(set []impl.Pitch)) {
	set := make([]impl.Pitch, 0, count)
	var add func(from int)
	add = func(from int) {
		if len(set) == count {
			try(set)
			return
		}
		for at := from; at < len(pitches); at++ {
			set = append(set, pitches[at])
			add(at + 1)
			set = set[:len(set)-1]
		}
	}
	add(0)
}

// ordersOf are all orders of pitches.
func ordersOf(list []impl.Pitch) [][]impl.Pitch {
	if len(list) == 0 {
		return [][]impl.Pitch{nil}
	}
	var orders [][]impl.Pitch
	for at := range list {
		for _, rest := range ordersOf(slices.Concat(list[:at], list[at+1:])) {
			orders = append(orders, append([]impl.Pitch{list[at]}, rest...))
		}
	}
	return orders
}

// eachSpread calls a function with pitches in all of the octaves given. The list is valid only during the call.
func eachSpread(list []impl.Pitch, octaves []int, try func(spread []impl.Pitch)) {
	spread := slices.Clone(list)
	var place func(at int)
	place = func(at int) {
		if at == len(spread) {
			try(spread)
			return
		}
		for _, octave := range octaves {
			spread[at].Octave = octave
			place(at + 1)
		}
	}
	place(0)
}

// randomLists are lists of up to 12 valid pitches, always the same ones: some of any pitches, and some of the tones of a chord, in any octaves.
func randomLists() [][]impl.Pitch {
	source := rand.New(rand.NewPCG(10, 57))
	pitches := allPitches()
	var list [][]impl.Pitch
	for round := range 6000 {
		from := pitches
		if chord, ok := chordFrom(pitches[source.IntN(len(pitches))], source.IntN(9)); ok && round%3 != 0 {
			from = chord
		}
		pick := make([]impl.Pitch, 0, 12)
		for count := source.IntN(13); len(pick) < count; {
			p := from[source.IntN(len(from))]
			p.Octave = source.IntN(9)
			pick = append(pick, p)
		}
		list = append(list, pick)
	}
	return list
}

// classesIn are the remainders of the keys of valid pitches, each once and ascending, counted without the program.
func classesIn(list []impl.Pitch) []int {
	var found []int
	for _, p := range list {
		found = append(found, (keyOf(p)+1200)%12)
	}
	slices.Sort(found)
	return slices.Compact(found)
}

// checkClasses fails unless valid pitches, at most 12 of them, have their classes.
func checkClasses(t *testing.T, list []impl.Pitch) {
	t.Helper()
	found := impl.KeyClasses(list)
	if len(found) > len(list) || !slices.Equal(found, classesIn(list)) {
		t.Fatal(pitchesText(list), found)
	}
	for at, class := range found {
		if class < 0 || class > 11 || at > 0 && found[at-1] >= class {
			t.Fatal(pitchesText(list), found)
		}
	}
}

// lendPitches returns pitches with others around them, which would change chords and classes if somebody looked at them, and a function that fails if one of them has changed.
func lendPitches(list []impl.Pitch) ([]impl.Pitch, func(t *testing.T)) {
	around := []impl.Pitch{{Octave: 4}, {Step: 1, Alter: -2}, {Step: 7}, {Step: 3, Alter: 1, Octave: 2}}
	whole := slices.Concat(around, list, slices.Repeat(around, 5))
	before := slices.Clone(whole)
	return whole[len(around) : len(around)+len(list)], func(t *testing.T) {
		t.Helper()
		if !slices.Equal(whole, before) {
			t.Fatal(whole, before)
		}
	}
}

// lentPitches are lists that are read: chords in several positions, other pitches, too many of them, and invalid ones.
func lentPitches(t *testing.T) [][]impl.Pitch {
	list := [][]impl.Pitch{nil, {}, slices.Repeat(pitchesOf(t, "C4"), 13), {{Step: 7}}, {{}, {Octave: 9}}}
	for _, text := range []string{"C4", "C4 E4 G4", "G2 E4 C5", "B3 D4 F4 Ab4", "E4 G4 C5 C6", "Cbb0 Ebb0 Gbb0", "C4 D4", "C4 E4 G4 B4 D5", "C1 E2 G3 C4 E5 G6 C7 E8 G1 C2 E3 G4"} {
		list = append(list, pitchesOf(t, text))
	}
	return append(list, randomLists()[:100]...)
}

func TestP57KindsHaveNumbers(t *testing.T) {
	kinds := []int{
		impl.ChordMajor, impl.ChordMinor, impl.ChordDim, impl.ChordAug,
		impl.ChordSeven, impl.ChordMajorSeven, impl.ChordMinorSeven, impl.ChordHalf, impl.ChordDimSeven,
	}
	for at, kind := range kinds {
		if kind != at {
			t.Fatal(at, kind)
		}
	}
}

func TestP57ChordsGoUpInThirds(t *testing.T) {
	possible, impossible := 0, 0
	for _, root := range allPitches() {
		for kind := range chordHalves {
			chord, ok := impl.ChordOf(root, kind)
			want, wantOk := chordFrom(root, kind)
			if ok != wantOk || !slices.Equal(chord, want) {
				t.Fatal(root, kind, chord, ok)
			}
			if !ok {
				impossible++
				continue
			}
			possible++
			for number := 1; number < len(chord); number++ {
				third := wayBetween(chord[number-1], chord[number])
				if third.Steps != 2 || third.Halves != 3 && third.Halves != 4 {
					t.Fatal(root, kind, chord)
				}
			}
			checkNamed(t, chord, named{impl.Pitch{Step: root.Step, Alter: root.Alter, Octave: 4}, kind}, 0)
		}
	}
	if possible < 1500 || impossible < 500 {
		t.Fatal(possible, impossible)
	}
}

func TestP57SeventhsAreAToneMore(t *testing.T) {
	triads := map[int]int{
		impl.ChordSeven: impl.ChordMajor, impl.ChordMajorSeven: impl.ChordMajor, impl.ChordMinorSeven: impl.ChordMinor,
		impl.ChordHalf: impl.ChordDim, impl.ChordDimSeven: impl.ChordDim,
	}
	for _, root := range allPitches() {
		for kind, triad := range triads {
			chord, ok := impl.ChordOf(root, kind)
			if !ok {
				continue
			}
			if three, ok := impl.ChordOf(root, triad); !ok || len(chord) != 4 || !slices.Equal(chord[:3], three) {
				t.Fatal(root, kind, chord, three)
			}
		}
	}
}

// writtenChords are chords by their text, which is empty where one of the tones is not valid.
var writtenChords = []struct {
	root string
	kind int
	text string
}{
	{"C4", impl.ChordMajor, "C4 E4 G4"},
	{"C4", impl.ChordMinor, "C4 Eb4 G4"},
	{"C4", impl.ChordDim, "C4 Eb4 Gb4"},
	{"C4", impl.ChordAug, "C4 E4 G#4"},
	{"C4", impl.ChordSeven, "C4 E4 G4 Bb4"},
	{"C4", impl.ChordMajorSeven, "C4 E4 G4 B4"},
	{"C4", impl.ChordMinorSeven, "C4 Eb4 G4 Bb4"},
	{"C4", impl.ChordHalf, "C4 Eb4 Gb4 Bb4"},
	{"C4", impl.ChordDimSeven, "C4 Eb4 Gb4 Bbb4"},
	{"D4", impl.ChordSeven, "D4 F#4 A4 C5"}, // into the next octave
	{"B3", impl.ChordDimSeven, "B3 D4 F4 Ab4"},
	{"B3", impl.ChordMajorSeven, "B3 D#4 F#4 A#4"},
	{"Bb2", impl.ChordMajor, "Bb2 D3 F3"},
	{"F#5", impl.ChordHalf, "F#5 A5 C6 E6"},
	{"E4", impl.ChordAug, "E4 G#4 B#4"},
	{"Ab4", impl.ChordMajor, "Ab4 C5 Eb5"},
	{"Gb4", impl.ChordDimSeven, "Gb4 Bbb4 Dbb5 Fbb5"},
	{"Gbb4", impl.ChordDimSeven, ""}, // Fbbb
	{"Gb4", impl.ChordHalf, "Gb4 Bbb4 Dbb5 Fb5"},
	{"D#4", impl.ChordMajor, "D#4 F##4 A#4"},
	{"D#4", impl.ChordAug, "D#4 F##4 A##4"},
	{"D##4", impl.ChordMajor, ""}, // F###
	{"D##4", impl.ChordMinor, "D##4 F##4 A##4"},
	{"B#4", impl.ChordAug, ""}, // F###
	{"B##4", impl.ChordMinor, ""},
	{"B##4", impl.ChordDim, "B##4 D##5 F##5"},
	{"B##4", impl.ChordHalf, "B##4 D##5 F##5 A##5"},
	{"B##4", impl.ChordDimSeven, "B##4 D##5 F##5 A#5"},
	{"C##4", impl.ChordMajor, "C##4 E##4 G##4"},
	{"C##4", impl.ChordAug, ""}, // G###
	{"C##4", impl.ChordMajorSeven, "C##4 E##4 G##4 B##4"},
	{"Cbb4", impl.ChordMajor, "Cbb4 Ebb4 Gbb4"},
	{"Cbb4", impl.ChordMinor, ""}, // Ebbb
	{"Cbb4", impl.ChordMajorSeven, "Cbb4 Ebb4 Gbb4 Bbb4"},
	{"Cbb4", impl.ChordSeven, ""}, // Bbbb
	{"Fb4", impl.ChordDim, "Fb4 Abb4 Cbb5"},
	{"Fbb4", impl.ChordDim, ""}, // Cbbb
	{"Fb4", impl.ChordMinor, "Fb4 Abb4 Cb5"},
	{"Fbb4", impl.ChordAug, "Fbb4 Abb4 Cb5"},
	{"Fbb4", impl.ChordMinor, ""},
	{"Cbb0", impl.ChordMajor, "Cbb0 Ebb0 Gbb0"}, // keys below 0
	{"Cb0", impl.ChordMinor, "Cb0 Ebb0 Gb0"},
	{"Cb0", impl.ChordDim, "Cb0 Ebb0 Gbb0"},
	{"C0", impl.ChordDimSeven, "C0 Eb0 Gb0 Bbb0"},
	{"C8", impl.ChordMajorSeven, "C8 E8 G8 B8"}, // up to the last octave's end
	{"C##8", impl.ChordMajorSeven, "C##8 E##8 G##8 B##8"},
	{"D8", impl.ChordMajor, "D8 F#8 A8"},
	{"D8", impl.ChordMinorSeven, ""}, // C9
	{"E8", impl.ChordMinor, "E8 G8 B8"},
	{"E8", impl.ChordAug, "E8 G#8 B#8"}, // keys beyond the last one
	{"E8", impl.ChordSeven, ""},
	{"Ebb8", impl.ChordDimSeven, ""},
	{"F8", impl.ChordMajor, ""},
	{"Fbb8", impl.ChordDim, ""},
	{"G8", impl.ChordMinor, ""},
	{"A8", impl.ChordDim, ""},
	{"B8", impl.ChordAug, ""},
	{"B##8", impl.ChordDim, ""},
	{"Bbb8", impl.ChordHalf, ""},
	{"B7", impl.ChordHalf, "B7 D8 F8 A8"},
}

func TestP57ChordsByText(t *testing.T) {
	for _, c := range writtenChords {
		chord, ok := impl.ChordOf(readPitch(t, c.root), c.kind)
		if ok != (c.text != "") || pitchesText(chord) != c.text {
			t.Fatal(c, pitchesText(chord), ok)
		}
	}
}

func TestP57ChordsEndWithTheLastOctave(t *testing.T) {
	for _, root := range allPitches() {
		for kind, halves := range chordHalves {
			last := 7*root.Octave + root.Step + 2*(len(halves)-1)
			if _, ok := impl.ChordOf(root, kind); ok && last > 62 {
				t.Fatal(root, kind)
			}
			lower := impl.Pitch{Step: root.Step, Alter: root.Alter, Octave: 2}
			_, ok := impl.ChordOf(root, kind)
			if _, lowerOk := impl.ChordOf(lower, kind); last <= 62 && ok != lowerOk {
				t.Fatal(root, kind, ok)
			}
		}
	}
}

func TestP57OtherKindsHaveNoChords(t *testing.T) {
	for _, kind := range badKinds() {
		for _, root := range allPitches() {
			if chord, ok := impl.ChordOf(root, kind); ok || len(chord) != 0 {
				t.Fatal(root, kind, chord)
			}
		}
	}
}

func TestP57OtherRootsHaveNoChords(t *testing.T) {
	kinds := []int{0, 1, 2, 3, 4, 5, 6, 7, 8, -1, 9, math.MinInt, math.MaxInt}
	for _, root := range badPitches() {
		for _, kind := range kinds {
			if chord, ok := impl.ChordOf(root, kind); ok || len(chord) != 0 {
				t.Fatal(root, kind, chord)
			}
		}
	}
}

func TestP57ChordsAreNewMemory(t *testing.T) {
	eachChord(t, func(want []impl.Pitch, name named) {
		first, _ := impl.ChordOf(want[0], name.kind)
		second, _ := impl.ChordOf(want[0], name.kind)
		all := first[:cap(first)]
		for at := range all {
			all[at] = impl.Pitch{Step: -1}
		}
		if third, _ := impl.ChordOf(want[0], name.kind); !slices.Equal(second, want) || !slices.Equal(third, want) {
			t.Fatal(want, second, third)
		}
	})
}

func TestP58NamedChordsAreChords(t *testing.T) {
	names := chordNames(t)
	found := 0
	for count := 1; count <= 4; count++ {
		eachSet(allTones(), count, func(set []impl.Pitch) {
			if !checkName(t, names, set) {
				return
			}
			found++
			root, kind, low, _ := impl.NameChord(set)
			chord, ok := impl.ChordOf(root, kind)
			if !ok || root.Octave != 4 || spelling(chord) != spelling(set) || !sameTone(chord[low], lowestIn(set)) {
				t.Fatal(set, root, kind, low, chord)
			}
		})
	}
	if found != len(names) {
		t.Fatal(found, len(names))
	}
}

func TestP58FiveTonesAreNoChord(t *testing.T) {
	eachSet(allTones(), 5, func(set []impl.Pitch) { checkNameless(t, set) })
}

func TestP58OctavesDoNotMatter(t *testing.T) {
	names := chordNames(t)
	octaves := []int{0, 1, 2, 3, 4, 5, 6, 7, 8}
	eachTones(t, func(tones []impl.Pitch, name named) {
		eachSpread(tones, octaves, func(spread []impl.Pitch) {
			if !checkName(t, names, spread) {
				t.Fatal(spread, name)
			}
		})
	})
}

func TestP58TheOrderDoesNotMatter(t *testing.T) {
	names := chordNames(t)
	eachTones(t, func(tones []impl.Pitch, name named) {
		for _, order := range ordersOf(tones) {
			eachSpread(order, []int{0, 4, 8}, func(spread []impl.Pitch) {
				if !checkName(t, names, spread) {
					t.Fatal(spread, name)
				}
			})
		}
	})
}

func TestP58DoubledTonesDoNotMatter(t *testing.T) {
	names := chordNames(t)
	found := 0
	for _, list := range randomLists() {
		if len(list) > 0 && checkName(t, names, list) {
			found++
		}
	}
	if found < 500 {
		t.Fatal(found)
	}
	eachTones(t, func(tones []impl.Pitch, name named) {
		for len(tones) < 12 {
			// The same pitch again, and the same tone in another octave.
			tones = append(tones, tones[len(tones)-3])
			if len(tones)%2 == 0 {
				tones[len(tones)-1].Octave = len(tones) % 9
			}
			if !checkName(t, names, tones) {
				t.Fatal(tones, name)
			}
		}
	})
}

// namesByText are lists with the root, the kind and the number of the lowest tone; the root is empty where there is no chord.
var namesByText = []struct {
	list string
	root string
	kind int
	low  int
}{
	{"E4 G4 C5 C6", "C4", impl.ChordMajor, 1},
	{"C4 E4 G4", "C4", impl.ChordMajor, 0},
	{"G4 C5 E5", "C4", impl.ChordMajor, 2},
	{"C5 G4 E5", "C4", impl.ChordMajor, 2},
	{"G8 E0 C3", "C4", impl.ChordMajor, 1},
	{"C4 C4 E4 E4 G4 G4", "C4", impl.ChordMajor, 0}, // several lowest tones
	{"G5 E4 C5 E4 E4", "C4", impl.ChordMajor, 1},
	{"A3 C4 E4", "A4", impl.ChordMinor, 0},
	{"C4 E4 A4", "A4", impl.ChordMinor, 1},
	{"C4 E4 G4 A4", "A4", impl.ChordMinorSeven, 1},
	{"A3 C4 E4 G4", "A4", impl.ChordMinorSeven, 0},
	{"F2 B3 D4 G4", "G4", impl.ChordSeven, 3},
	{"G2 B3 D4 F4", "G4", impl.ChordSeven, 0},
	{"B2 D4 F4 G4 B4 G5", "G4", impl.ChordSeven, 1},
	{"F4 A4 C5 E5", "F4", impl.ChordMajorSeven, 0},
	{"E4 F4 A4 C5", "F4", impl.ChordMajorSeven, 3},
	{"B4 D5 F5", "B4", impl.ChordDim, 0},
	{"F4 B4 D5", "B4", impl.ChordDim, 2},
	{"B4 D5 F5 A5", "B4", impl.ChordHalf, 0},
	{"A4 B4 D5 F5", "B4", impl.ChordHalf, 3},
	{"G#4 B4 D5 F5", "G#4", impl.ChordDimSeven, 0}, // the same keys, and four roots
	{"Ab4 B4 D5 F5", "B4", impl.ChordDimSeven, 3},
	{"Ab4 Cb5 D5 F5", "D4", impl.ChordDimSeven, 2},
	{"G#4 B4 D5 E#5", "E#4", impl.ChordDimSeven, 1},
	{"Ab4 Cb5 Ebb5 F5", "F4", impl.ChordDimSeven, 1},
	{"G#4 B4 D5 F#5", "G#4", impl.ChordHalf, 0},
	{"C4 E4 G#4", "C4", impl.ChordAug, 0}, // the same keys, and three roots
	{"B#3 E4 G#4", "E4", impl.ChordAug, 2},
	{"C4 E4 Ab4", "Ab4", impl.ChordAug, 1},
	{"C4 Fb4 Ab4", "Fb4", impl.ChordAug, 2},
	{"B#3 D##4 G#4", "G#4", impl.ChordAug, 1},
	{"F#4 A#4 C#5", "F#4", impl.ChordMajor, 0},
	{"F#4 Bb4 C#5", "", 0, 0}, // the same keys, and another step
	{"Gb4 Bb4 Db5", "Gb4", impl.ChordMajor, 0},
	{"C4 E4 G4 A#4", "", 0, 0},
	{"C4 D#4 G4", "", 0, 0},
	{"C4 Fb4 G4", "", 0, 0},
	{"C4 E4 G4 B#4", "", 0, 0}, // a tone twice, spelled in two ways
	{"C4 B#3 E4 G4", "", 0, 0},
	{"C4 C#4 E4 G4", "", 0, 0}, // a step twice
	{"C4 E4 Eb4 G4", "", 0, 0},
	{"C4", "", 0, 0},
	{"C4 C5", "", 0, 0},
	{"C4 E4", "", 0, 0},
	{"C4 G4", "", 0, 0},
	{"C4 D4", "", 0, 0},
	{"C4 E4 B4", "", 0, 0},
	{"C4 G4 B4", "", 0, 0},
	{"E4 G4 B4 D5 F5", "", 0, 0},
	{"C4 E4 G4 B4 D5", "", 0, 0},
	{"C4 E4 G#4 B4", "", 0, 0}, // thirds, and no kind
	{"C4 Eb4 G4 B4", "", 0, 0},
	{"C4 E4 G#4 Bb4", "", 0, 0},
	{"C4 E4 Gb4", "", 0, 0},
	{"C4 Eb4 G#4", "", 0, 0},
	{"Cbb0 Ebb0 Gbb0", "Cbb4", impl.ChordMajor, 0}, // keys below 0
	{"Cbb0 Ebb0 Abb0", "Abb4", impl.ChordMinor, 1},
	{"Abb0 Ebb1 Cbb0", "Abb4", impl.ChordMinor, 1},
	{"Eb0 Gb0 Cb0", "Cb4", impl.ChordMajor, 0},
	{"Ebb0 Gb1 Cb0", "Cb4", impl.ChordMinor, 0},
	{"C0 Cbb0 E0 G0", "", 0, 0},
	{"Dbb0 Bbb1 Gb1 Eb1", "Eb4", impl.ChordDimSeven, 3}, // the key of C0
	{"B##8 G##8 E##8", "E##4", impl.ChordMinor, 0},      // keys beyond the last one
	{"B#8 E8 G#8", "E4", impl.ChordAug, 0},
	{"G8 B8 D8", "G4", impl.ChordMajor, 2}, // its own root would be too high
	{"B8 D8 F8 A8", "B4", impl.ChordHalf, 1},
	{"B##8 D##8 F##8", "B##4", impl.ChordDim, 1},
	{"Cb4 B3 Eb4 Gb4", "", 0, 0},
}

func TestP58NamesByText(t *testing.T) {
	for _, c := range namesByText {
		list := pitchesOf(t, c.list)
		if c.root == "" {
			checkNameless(t, list)
		} else {
			checkNamed(t, list, named{readPitch(t, c.root), c.kind}, c.low)
		}
	}
}

func TestP58WithATonesLessOrMore(t *testing.T) {
	names := chordNames(t)
	parts := 0
	eachTones(t, func(tones []impl.Pitch, name named) {
		for at := range tones {
			part := slices.Concat(tones[:at], tones[at+1:])
			if checkName(t, names, part) {
				parts++
			}
			if root, kind, _, ok := impl.NameChord(part); ok && root == name.root && kind == name.kind {
				t.Fatal(part, name)
			}
		}
		for _, further := range allTones() {
			root, kind, _, ok := impl.NameChord(append(slices.Clone(tones), further))
			same := ok && root == name.root && kind == name.kind
			if same != slices.Contains(tones, further) {
				t.Fatal(tones, further, root, kind)
			}
		}
	})
	if parts == 0 {
		t.Fatal(parts)
	}
}

func TestP58OtherStepsAreNotTheChord(t *testing.T) {
	names := chordNames(t)
	eachTones(t, func(tones []impl.Pitch, name named) {
		for at, tone := range tones {
			for _, other := range allPitches() {
				if keyOf(other) != keyOf(tone) || other.Step == tone.Step {
					continue
				}
				list := slices.Clone(tones)
				list[at] = other
				checkName(t, names, list)
				if root, kind, _, ok := impl.NameChord(list); ok && root == name.root && kind == name.kind {
					t.Fatal(list, name)
				}
				// Spelled in both ways, it is a step too many.
				checkNameless(t, append(list, tone))
			}
		}
	})
}

func TestP58OnePitchIsNoChord(t *testing.T) {
	for _, p := range allPitches() {
		for count := 1; count <= 13; count++ {
			checkNameless(t, slices.Repeat([]impl.Pitch{p}, count))
		}
	}
}

func TestP58TwelvePitchesAreTheMost(t *testing.T) {
	eachTones(t, func(tones []impl.Pitch, name named) {
		list := slices.Repeat(tones, 12)
		low := slices.Index(tones, lowestIn(tones))
		for count := len(tones); count <= 12; count++ {
			checkNamed(t, list[:count], name, low)
		}
		for _, count := range []int{13, 14, 15, 24, len(list)} {
			checkNameless(t, list[:count])
		}
	})
	for _, count := range []int{60, 256, 256 + 3, 1 << 16, 1<<16 + 3} {
		checkNameless(t, slices.Repeat(pitchesOf(t, "C4 E4 G4"), count)[:count])
	}
	checkNameless(t, nil)
	checkNameless(t, []impl.Pitch{})
}

func TestP58OtherPitchesAreNoChord(t *testing.T) {
	good := pitchesOf(t, "C4 E4 G4 Bb4 C5 E5 G5 Bb5 C6 E6 G6")
	for _, bad := range badPitches() {
		checkNameless(t, []impl.Pitch{bad})
		for _, count := range []int{3, 4, 11} {
			for _, at := range []int{0, 1, count - 1, count} {
				checkNameless(t, slices.Insert(slices.Clone(good[:count]), at, bad))
			}
			list := slices.Clone(good[:count])
			list[count/2] = bad
			checkNameless(t, list)
		}
		checkNameless(t, append(slices.Repeat(good[:3], 4), bad))
	}
}

func TestP58ChordsAreOnlyRead(t *testing.T) {
	names := chordNames(t)
	for _, list := range lentPitches(t) {
		lent, check := lendPitches(list)
		invalid := slices.ContainsFunc(list, func(p impl.Pitch) bool { return !pitchIsValid(p) })
		if len(list) == 0 || len(list) > 12 || invalid {
			checkNameless(t, lent)
		} else {
			checkName(t, names, lent)
		}
		check(t)
	}
}

func TestP59ClassesAreRemainders(t *testing.T) {
	for count := 1; count <= 2; count++ {
		eachSet(allPitches(), count, func(set []impl.Pitch) { checkClasses(t, set) })
	}
	for _, list := range randomLists() {
		checkClasses(t, list)
	}
	eachSet(allTones(), 4, func(set []impl.Pitch) { checkClasses(t, set) })
}

func TestP59EachClassIsThatOfAPitch(t *testing.T) {
	for _, list := range randomLists() {
		classes := impl.KeyClasses(list)
		for _, class := range classes {
			if !slices.ContainsFunc(list, func(p impl.Pitch) bool { return (keyOf(p)-class)%12 == 0 }) {
				t.Fatal(list, classes)
			}
		}
		for _, p := range list {
			if !slices.ContainsFunc(classes, func(class int) bool { return (keyOf(p)-class)%12 == 0 }) {
				t.Fatal(list, classes)
			}
		}
	}
}

func TestP59TheOrderDoesNotMatter(t *testing.T) {
	for _, list := range randomLists() {
		want := impl.KeyClasses(list)
		turned := slices.Clone(list)
		slices.Reverse(turned)
		if classes := impl.KeyClasses(turned); !slices.Equal(classes, want) {
			t.Fatal(list, classes, want)
		}
		for range list {
			turned = append(turned[1:], turned[0])
			if classes := impl.KeyClasses(turned); !slices.Equal(classes, want) {
				t.Fatal(turned, classes, want)
			}
		}
	}
}

func TestP59ClassesByText(t *testing.T) {
	cases := map[string][]int{
		"":                {},
		"C4":              {0},
		"B3":              {11},
		"C4 G4 E3 B#4":    {0, 4, 7},
		"B4 A4 G4":        {7, 9, 11},
		"Cb0":             {11}, // keys below 0
		"Cbb0":            {10},
		"Dbb0":            {0},
		"Cbb0 Cb0 C0":     {0, 10, 11},
		"B8 B#8 B##8":     {0, 1, 11}, // keys beyond the last one
		"A##8":            {11},
		"Cb4 B4 A##4":     {11},
		"C4 B#4 Dbb4":     {0},
		"C0 C1 C2 C3 C8":  {0},
		"C#4 Db5 B##6":    {1},
		"F#4 Gb4 E##4 C4": {0, 6},
		"C4 C#4 D4 D#4 E4 F4 F#4 G4 G#4 A4 A#4 B4":    {0, 1, 2, 3, 4, 5, 6, 7, 8, 9, 10, 11},
		"Cb4 Bb3 A8 Ab7 G6 Gb5 F1 E0 Eb3 D2 Db1 C1":   {0, 1, 2, 3, 4, 5, 6, 7, 8, 9, 10, 11},
		"C4 C4 C4 C4 C4 C4 C4 C4 C4 C4 C4 C4":         {0},
		"C4 C4 C4 C4 C4 C4 C4 C4 C4 C4 C4 C4 C4":      {}, // a pitch too many
		"C4 C#4 D4 D#4 E4 F4 F#4 G4 G#4 A4 A#4 B4 C5": {},
	}
	for text, want := range cases {
		if classes := impl.KeyClasses(pitchesOf(t, text)); !slices.Equal(classes, want) {
			t.Fatal(text, classes, want)
		}
	}
}

func TestP59TwelvePitchesAreTheMost(t *testing.T) {
	pitches := allPitches()
	for at := range pitches[:300] {
		list := slices.Concat(pitches[at:], pitches[:at])
		for count := range 13 {
			checkClasses(t, list[:count])
		}
		for _, count := range []int{13, 14, 24, 25, 256, 300, 315} {
			if classes := impl.KeyClasses(list[:count]); len(classes) != 0 {
				t.Fatal(list[:count], classes)
			}
		}
	}
	for _, count := range []int{13, 1 << 8, 1<<8 + 1, 1 << 16, 1<<16 + 1} {
		if classes := impl.KeyClasses(make([]impl.Pitch, count)); len(classes) != 0 {
			t.Fatal(count, classes)
		}
	}
}

func TestP59OtherPitchesHaveNoClasses(t *testing.T) {
	good := pitchesOf(t, "C4 E4 G4 Bb4 C5 E5 G5 Bb5 C6 E6 G6")
	for _, bad := range badPitches() {
		for count := range 12 {
			for _, at := range []int{0, count / 2, count} {
				list := slices.Insert(slices.Clone(good[:count]), at, bad)
				if classes := impl.KeyClasses(list); len(classes) != 0 {
					t.Fatal(list, classes)
				}
			}
		}
	}
}

func TestP59ClassesAreNewMemory(t *testing.T) {
	for _, list := range lentPitches(t) {
		lent, check := lendPitches(list)
		first, second := impl.KeyClasses(lent), impl.KeyClasses(lent)
		want := slices.Clone(second)
		all := first[:cap(first)]
		for at := range all {
			all[at] = -7
		}
		check(t)
		if third := impl.KeyClasses(lent); !slices.Equal(second, want) || !slices.Equal(third, want) {
			t.Fatal(list, second, third, want)
		}
	}
}

func TestP125ChordsKeepTheirNameInEveryPosition(t *testing.T) {
	turns := 0
	eachChord(t, func(chord []impl.Pitch, name named) {
		for number := 0; ; number = (number + 1) % len(chord) {
			for _, order := range ordersOf(chord) {
				checkNamed(t, order, name, number)
			}
			if chord[number].Octave == 8 {
				return
			}
			chord[number].Octave++
			turns++
		}
	})
	if turns < 10000 {
		t.Fatal(turns)
	}
}

func TestP125DoubledChordsKeepTheirName(t *testing.T) {
	eachChord(t, func(chord []impl.Pitch, name named) {
		if chord[len(chord)-1].Octave > 6 {
			return
		}
		doubled := slices.Clone(chord)
		for range 12/len(chord) - 1 {
			for _, p := range doubled[len(doubled)-len(chord):] {
				p.Octave++
				doubled = append(doubled, p)
			}
			if doubled[len(doubled)-1].Octave == 8 {
				break
			}
		}
		for number := range chord {
			checkNamed(t, doubled, name, number)
			doubled[number].Octave++
		}
		checkNamed(t, doubled, name, 0)
	})
}

func TestP125WideChordsKeepTheirName(t *testing.T) {
	eachTones(t, func(tones []impl.Pitch, name named) {
		eachSpread(tones, []int{0, 1, 3, 7}, func(spread []impl.Pitch) {
			raised := slices.Clone(spread)
			low := slices.Index(raised, lowestIn(raised))
			checkNamed(t, raised, name, low)
			raised[low].Octave++
			checkNamed(t, raised, name, slices.Index(raised, lowestIn(raised)))
		})
	})
}

func TestP125PositionsByText(t *testing.T) {
	cases := []struct {
		root      string
		kind      int
		positions []string
	}{
		{"C4", impl.ChordMajor, []string{"C4 E4 G4", "E4 G4 C5", "G4 C5 E5", "C5 E5 G5", "E5 G5 C6"}},
		{"A4", impl.ChordMinor, []string{"A3 C4 E4", "C4 E4 A4", "E4 A4 C5", "A4 C5 E5"}},
		{"B4", impl.ChordDim, []string{"B2 D3 F3", "D3 F3 B3", "F3 B3 D4", "B3 D4 F4"}},
		{"C4", impl.ChordAug, []string{"C4 E4 G#4", "E4 G#4 C5", "G#4 C5 E5", "C5 E5 G#5"}},
		{"G4", impl.ChordSeven, []string{"G3 B3 D4 F4", "B3 D4 F4 G4", "D4 F4 G4 B4", "F4 G4 B4 D5", "G4 B4 D5 F5"}},
		{"C4", impl.ChordMajorSeven, []string{"C4 E4 G4 B4", "E4 G4 B4 C5", "G4 B4 C5 E5", "B4 C5 E5 G5", "C5 E5 G5 B5"}},
		{"D4", impl.ChordMinorSeven, []string{"D7 F7 A7 C8", "F7 A7 C8 D8", "A7 C8 D8 F8", "C8 D8 F8 A8"}},
		{"B4", impl.ChordHalf, []string{"B3 D4 F4 A4", "D4 F4 A4 B4", "F4 A4 B4 D5", "A4 B4 D5 F5"}},
		{"B4", impl.ChordDimSeven, []string{"B3 D4 F4 Ab4", "D4 F4 Ab4 B4", "F4 Ab4 B4 D5", "Ab4 B4 D5 F5"}},
		{"Cbb4", impl.ChordMajor, []string{"Cbb0 Ebb0 Gbb0", "Ebb0 Gbb0 Cbb1", "Gbb0 Cbb1 Ebb1", "Cbb1 Ebb1 Gbb1"}},
		{"B##4", impl.ChordDim, []string{"B##6 D##7 F##7", "D##7 F##7 B##7", "F##7 B##7 D##8", "B##7 D##8 F##8", "D##8 F##8 B##8"}},
	}
	for _, c := range cases {
		for turn, text := range c.positions {
			list := pitchesOf(t, text)
			checkNamed(t, list, named{readPitch(t, c.root), c.kind}, turn%len(list))
		}
	}
}

// movedList moves pitches with the program, and reports whether all of them can be moved.
func movedList(list []impl.Pitch, by impl.Interval) ([]impl.Pitch, bool) {
	var moved []impl.Pitch
	for _, p := range list {
		tone, ok := impl.AddInterval(p, by)
		if !ok {
			return nil, false
		}
		moved = append(moved, tone)
	}
	return moved, true
}

func TestP126MovedChordsAreChords(t *testing.T) {
	possible, impossible := 0, 0
	intervals := validIntervals()
	for _, root := range allPitches() {
		for kind := range chordHalves {
			chord, ok := impl.ChordOf(root, kind)
			if !ok {
				continue
			}
			for by := range intervals {
				moved, ok := movedList(chord, by)
				movedRoot, rootOk := impl.AddInterval(root, by)
				want, wantOk := impl.ChordOf(movedRoot, kind)
				if ok != (rootOk && wantOk) || ok && !slices.Equal(moved, want) {
					t.Fatal(root, kind, by, moved, want)
				}
				if !ok {
					impossible++
					continue
				}
				possible++
				checkNamed(t, moved, named{impl.Pitch{Step: movedRoot.Step, Alter: movedRoot.Alter, Octave: 4}, kind}, 0)
			}
		}
	}
	if possible < 100000 || impossible < 100000 {
		t.Fatal(possible, impossible)
	}
}

func TestP126MovedPositionsAreThoseOfTheChord(t *testing.T) {
	eachTones(t, func(tones []impl.Pitch, name named) {
		eachSpread(tones, []int{2, 3, 5}, func(spread []impl.Pitch) {
			_, _, low, ok := impl.NameChord(spread)
			if !ok {
				t.Fatal(spread)
			}
			for _, by := range fewIntervals() {
				moved, ok := movedList(spread, by)
				if !ok {
					continue
				}
				root := moved[slices.Index(tones, name.root)]
				root.Octave = 4
				checkNamed(t, moved, named{root, name.kind}, low)
			}
		})
	})
}

func TestP126MovedByText(t *testing.T) {
	cases := []struct {
		list  string
		by    impl.Interval
		moved string
		root  string
		kind  int
		low   int
	}{
		{"C4 E4 G4", impl.Interval{}, "C4 E4 G4", "C4", impl.ChordMajor, 0},
		{"C4 E4 G4", impl.Interval{Steps: 4, Halves: 7}, "G4 B4 D5", "G4", impl.ChordMajor, 0},
		{"E4 G4 C5", impl.Interval{Steps: -3, Halves: -5}, "B3 D4 G4", "G4", impl.ChordMajor, 1},
		{"A3 C4 E4", octave, "A4 C5 E5", "A4", impl.ChordMinor, 0},
		{"C4 E4 G4", impl.Interval{Halves: 1}, "C#4 E#4 G#4", "C#4", impl.ChordMajor, 0},
		{"C4 E4 G4", impl.Interval{Steps: 1, Halves: 1}, "Db4 F4 Ab4", "Db4", impl.ChordMajor, 0},
		{"F4 G4 B4 D5", impl.Interval{Steps: 2, Halves: 3}, "Ab4 Bb4 D5 F5", "Bb4", impl.ChordSeven, 3},
		{"B3 D4 F4 Ab4", impl.Interval{Steps: 1, Halves: 2}, "C#4 E4 G4 Bb4", "C#4", impl.ChordDimSeven, 0},
		{"E8 C7 G6", impl.Interval{Steps: -21, Halves: -36}, "E5 C4 G3", "C4", impl.ChordMajor, 2},
		{"Cb0 Eb0 Gb0", impl.Interval{Halves: -1}, "Cbb0 Ebb0 Gbb0", "Cbb4", impl.ChordMajor, 0},
	}
	for _, c := range cases {
		moved, ok := movedList(pitchesOf(t, c.list), c.by)
		if !ok || pitchesText(moved) != c.moved {
			t.Fatal(c, moved, ok)
		}
		checkNamed(t, moved, named{readPitch(t, c.root), c.kind}, c.low)
	}
}
