package tests

import (
	"math"
	"math/rand/v2"
	"slices"
	"strconv"
	"strings"
	"testing"

	"loop.example/musicengine/impl"
)

// keyedChord is a chord on a degree of a key, counted without the program.
type keyedChord struct {
	fifths  int
	minor   bool
	degree  int
	seventh bool
	tones   []impl.Pitch
}

// degreeKinds are the kinds of the chords on the degrees of every major key, without and with a seventh.
var degreeKinds = map[bool][]int{
	false: {impl.ChordMajor, impl.ChordMinor, impl.ChordMinor, impl.ChordMajor, impl.ChordMajor, impl.ChordMinor, impl.ChordDim},
	true:  {impl.ChordMajorSeven, impl.ChordMinorSeven, impl.ChordMinorSeven, impl.ChordMajorSeven, impl.ChordSeven, impl.ChordMinorSeven, impl.ChordHalf},
}

// forbidden are the pairs of degrees of which the second one must not follow the first one.
var forbidden = [][2]int{{4, 1}, {4, 3}, {6, 1}, {6, 3}}

// cadences are the ends that have a cadence, CadenceHalf with all degrees beside 4 written out.
var cadences = map[[2]int]int{
	{4, 0}: impl.CadenceFull,
	{3, 0}: impl.CadenceSoft,
	{4, 5}: impl.CadenceFalse,
	{0, 4}: impl.CadenceHalf, {1, 4}: impl.CadenceHalf, {2, 4}: impl.CadenceHalf, {3, 4}: impl.CadenceHalf, {5, 4}: impl.CadenceHalf, {6, 4}: impl.CadenceHalf,
}

// allDegrees are all degrees of a key.
var allDegrees = []int{0, 1, 2, 3, 4, 5, 6}

// eachKey calls a function with every key, major and minor.
func eachKey(try func(fifths int, minor bool)) {
	for _, minor := range modes {
		for _, fifths := range validKeys() {
			try(fifths, minor)
		}
	}
}

// chordIn is the chord on a degree of a key, from the scale that is written out, whose tones go on an octave above.
func chordIn(t *testing.T, fifths int, minor bool, degree int, seventh bool) []impl.Pitch {
	t.Helper()
	scale := writtenScale(t, fifths, minor)[:7]
	thirds := []int{0, 2, 4}
	if seventh {
		thirds = append(thirds, 6)
	}
	var chord []impl.Pitch
	for _, steps := range thirds {
		tone := scale[(degree+steps)%7]
		tone.Octave += (degree + steps) / 7
		chord = append(chord, tone)
	}
	return chord
}

// keyedChords are the chords on all degrees of all keys, with and without a seventh.
func keyedChords(t *testing.T) []keyedChord {
	t.Helper()
	var list []keyedChord
	eachKey(func(fifths int, minor bool) {
		for _, degree := range allDegrees {
			for _, seventh := range []bool{false, true} {
				list = append(list, keyedChord{fifths, minor, degree, seventh, chordIn(t, fifths, minor, degree, seventh)})
			}
		}
	})
	return list
}

// degreesIn are the degrees of the chords of a key, by their spelling.
func degreesIn(t *testing.T, fifths int, minor bool) map[uint64]int {
	t.Helper()
	degrees := map[uint64]int{}
	for _, degree := range allDegrees {
		for _, seventh := range []bool{false, true} {
			degrees[spelling(chordIn(t, fifths, minor, degree, seventh))] = degree
		}
	}
	// No two chords of a key are spelled alike, so that their order never decides.
	if len(degrees) != 14 {
		t.Fatal(fifths, minor, degrees)
	}
	return degrees
}

// checkDegree fails unless pitches, which may be invalid, have this degree in a key.
func checkDegree(t *testing.T, fifths int, minor bool, list []impl.Pitch, want int) {
	t.Helper()
	if degree := impl.DegreeOfChord(fifths, minor, list); degree != want {
		t.Fatal(fifths, minor, list, degree, want)
	}
}

// checkSpelled fails unless valid pitches, 1 to 12 of them, have the degree that belongs to their spelling. It returns that degree.
func checkSpelled(t *testing.T, degrees map[uint64]int, fifths int, minor bool, list []impl.Pitch) int {
	t.Helper()
	want, ok := degrees[spelling(list)]
	if !ok {
		want = -1
	}
	checkDegree(t, fifths, minor, list, want)
	return want
}

// badDegrees are below 0 or beyond 6; some of them come back within that if seven is added to them, or if they are doubled, and that wraps around.
func badDegrees() []int {
	list := append([]int{1 << 8, 1<<8 + 4, 1 << 16, 1<<32 + 4, -1<<32 + 4, 1<<62 + 4, -1<<62 + 4, 1<<63 - 8, math.MinInt + 4, math.MaxInt - 6}, farNumbers...)
	for distance := range 60 {
		list = append(list, -1-distance, 7+distance)
	}
	return list
}

// fewBadDegrees are some of badDegrees, for tests in which every place is tried.
func fewBadDegrees() []int {
	return []int{-1, 7, 8, 11, -3, 1<<32 + 4, 1 << 62, math.MinInt, math.MaxInt}
}

// eachDegrees calls a function with every list of so many degrees. The list is valid only during the call.
func eachDegrees(count int, try func(degrees []int)) {
	degrees := make([]int, count)
	var place func(at int)
	place = func(at int) {
		if at == count {
			try(degrees)
			return
		}
		for _, degree := range allDegrees {
			degrees[at] = degree
			place(at + 1)
		}
	}
	place(0)
}

// randomDegrees are long lists of degrees, always the same ones: some with many faults, and some with few.
func randomDegrees() [][]int {
	source := rand.New(rand.NewPCG(11, 62))
	var list [][]int
	for round := range 2000 {
		calm := []int{0, 2, 4, 5, 6}
		degrees := make([]int, source.IntN(80))
		for at := range degrees {
			degrees[at] = calm[source.IntN(len(calm))]
			if round%4 == 0 || source.IntN(40) == 0 {
				degrees[at] = source.IntN(7)
			}
		}
		list = append(list, degrees)
	}
	return list
}

// degreesOf reads degrees: one digit for each; spaces between them do not matter.
func degreesOf(t *testing.T, text string) []int {
	t.Helper()
	var degrees []int
	for _, digit := range strings.ReplaceAll(text, " ", "") {
		degree, err := strconv.Atoi(string(digit))
		if err != nil {
			t.Fatal(text)
		}
		degrees = append(degrees, degree)
	}
	return degrees
}

// followFault is the number of the first degree that must not follow the one before it.
func followFault(degrees []int) int {
	for at := range degrees {
		if at > 0 && slices.Contains(forbidden, [2]int{degrees[at-1], degrees[at]}) {
			return at
		}
	}
	return -1
}

// checkProgression fails unless degrees, which may be invalid, have this fault.
func checkProgression(t *testing.T, degrees []int, want int) {
	t.Helper()
	if fault := impl.ProgressionFault(degrees); fault != want {
		t.Fatal(degrees, fault, want)
	}
}

// checkCadence fails unless degrees, which may be invalid, have this cadence.
func checkCadence(t *testing.T, degrees []int, want int) {
	t.Helper()
	if cadence := impl.CadenceOf(degrees); cadence != want {
		t.Fatal(degrees, cadence, want)
	}
}

// lendDegrees returns degrees with others around them, which would be faults or cadences if somebody looked at them, and a function that fails if one of them has changed.
func lendDegrees(degrees []int) ([]int, func(t *testing.T)) {
	before, behind := []int{4, 3, 4}, []int{1, 4, 0, 7}
	whole := slices.Concat(before, degrees, behind)
	copied := slices.Clone(whole)
	return whole[len(before) : len(before)+len(degrees)], func(t *testing.T) {
		t.Helper()
		if !slices.Equal(whole, copied) {
			t.Fatal(whole, copied)
		}
	}
}

func TestP60ChordsOfKeysAreInTheKey(t *testing.T) {
	for _, c := range keyedChords(t) {
		chord := impl.ChordOn(c.fifths, c.minor, c.degree, c.seventh)
		if !slices.Equal(chord, c.tones) {
			t.Fatal(c, chord)
		}
		for _, tone := range chord {
			if !impl.PitchValid(tone) || !impl.InKey(c.fifths, tone) || tone.Alter != orderedAlter(c.fifths, tone.Step) {
				t.Fatal(c, tone)
			}
		}
		checkDegree(t, c.fifths, c.minor, chord, c.degree)
	}
}

func TestP60ChordsStandOnTheScale(t *testing.T) {
	eachKey(func(fifths int, minor bool) {
		scale := impl.KeyScale(fifths, minor)
		for _, degree := range allDegrees {
			chord := impl.ChordOn(fifths, minor, degree, true)
			if len(chord) != 4 || chord[0] != scale[degree] {
				t.Fatal(fifths, minor, degree, chord)
			}
			for number, tone := range chord {
				if impl.PitchPlace(tone)-impl.PitchPlace(scale[degree]) != 2*number || tone.Alter != impl.KeyAlter(fifths, tone.Step) {
					t.Fatal(fifths, minor, degree, chord)
				}
			}
		}
	})
}

func TestP60ASeventhIsOneToneMore(t *testing.T) {
	eachKey(func(fifths int, minor bool) {
		for _, degree := range allDegrees {
			three, four := impl.ChordOn(fifths, minor, degree, false), impl.ChordOn(fifths, minor, degree, true)
			if len(three) != 3 || len(four) != 4 || !slices.Equal(four[:3], three) {
				t.Fatal(fifths, minor, degree, three, four)
			}
		}
	})
}

func TestP60ChordsOfKeysHaveKinds(t *testing.T) {
	for _, c := range keyedChords(t) {
		degree := c.degree
		if c.minor {
			degree = (c.degree + 5) % 7
		}
		kind := degreeKinds[c.seventh][degree]
		chord := impl.ChordOn(c.fifths, c.minor, c.degree, c.seventh)
		root := impl.Pitch{Step: c.tones[0].Step, Alter: c.tones[0].Alter, Octave: 4}
		checkNamed(t, chord, named{root, kind}, 0)
		if same, ok := impl.ChordOf(chord[0], kind); !ok || !slices.Equal(same, chord) {
			t.Fatal(c, chord, same)
		}
	}
}

func TestP60ChordsByText(t *testing.T) {
	cases := []struct {
		fifths  int
		minor   bool
		degree  int
		seventh bool
		text    string
	}{
		{0, false, 0, false, "C4 E4 G4"},
		{0, false, 1, false, "D4 F4 A4"},
		{0, false, 2, false, "E4 G4 B4"},
		{0, false, 3, false, "F4 A4 C5"},
		{0, false, 4, false, "G4 B4 D5"},
		{0, false, 5, false, "A4 C5 E5"},
		{0, false, 6, false, "B4 D5 F5"},
		{0, false, 4, true, "G4 B4 D5 F5"},
		{0, false, 6, true, "B4 D5 F5 A5"},
		{0, true, 0, false, "A4 C5 E5"},
		{0, true, 4, false, "E5 G5 B5"}, // the seventh degree of a minor key is not raised
		{0, true, 4, true, "E5 G5 B5 D6"},
		{0, true, 6, true, "G5 B5 D6 F6"},
		{-3, true, 0, false, "C4 Eb4 G4"},
		{-3, true, 1, true, "D4 F4 Ab4 C5"},
		{-3, false, 0, true, "Eb4 G4 Bb4 D5"},
		{1, false, 4, true, "D5 F#5 A5 C6"},
		{3, false, 6, false, "G#5 B5 D6"},
		{5, false, 0, false, "B4 D#5 F#5"},
		{5, false, 6, true, "A#5 C#6 E6 G#6"}, // the highest of all
		{7, false, 6, true, "B#4 D#5 F#5 A#5"},
		{7, true, 0, false, "A#4 C#5 E#5"},
		{7, true, 6, true, "G#5 B#5 D#6 F#6"},
		{-7, false, 0, false, "Cb4 Eb4 Gb4"},
		{-7, false, 3, true, "Fb4 Ab4 Cb5 Eb5"},
		{-7, true, 1, false, "Bb4 Db5 Fb5"},
		{-6, false, 6, true, "F5 Ab5 Cb6 Eb6"},
		{6, true, 1, true, "E#4 G#4 B4 D#5"},
	}
	for _, c := range cases {
		if chord := impl.ChordOn(c.fifths, c.minor, c.degree, c.seventh); pitchesText(chord) != c.text {
			t.Fatal(c, pitchesText(chord))
		}
	}
}

func TestP60OtherKeysHaveNoChords(t *testing.T) {
	degrees := slices.Concat(allDegrees, fewBadDegrees())
	for _, fifths := range badKeys() {
		for _, minor := range modes {
			for _, degree := range degrees {
				for _, seventh := range []bool{false, true} {
					if chord := impl.ChordOn(fifths, minor, degree, seventh); len(chord) != 0 {
						t.Fatal(fifths, minor, degree, seventh, chord)
					}
				}
			}
		}
	}
}

func TestP60OtherDegreesHaveNoChords(t *testing.T) {
	for _, degree := range badDegrees() {
		eachKey(func(fifths int, minor bool) {
			for _, seventh := range []bool{false, true} {
				if chord := impl.ChordOn(fifths, minor, degree, seventh); len(chord) != 0 {
					t.Fatal(fifths, minor, degree, seventh, chord)
				}
			}
		})
	}
}

func TestP60ChordsAreNewMemory(t *testing.T) {
	for _, c := range keyedChords(t) {
		first := impl.ChordOn(c.fifths, c.minor, c.degree, c.seventh)
		second := impl.ChordOn(c.fifths, c.minor, c.degree, c.seventh)
		all := first[:cap(first)]
		for at := range all {
			all[at] = impl.Pitch{Step: -1}
		}
		third := impl.ChordOn(c.fifths, c.minor, c.degree, c.seventh)
		if !slices.Equal(second, c.tones) || !slices.Equal(third, c.tones) {
			t.Fatal(c, second, third)
		}
	}
}

func TestP61ExactlyTheChordsHaveDegrees(t *testing.T) {
	eachKey(func(fifths int, minor bool) {
		degrees := degreesIn(t, fifths, minor)
		found := 0
		for count := 1; count <= 4; count++ {
			eachSet(allTones(), count, func(set []impl.Pitch) {
				if checkSpelled(t, degrees, fifths, minor, set) >= 0 {
					found++
				}
			})
		}
		if found != 14 {
			t.Fatal(fifths, minor, found)
		}
	})
}

func TestP61FiveTonesHaveNoDegree(t *testing.T) {
	for _, key := range []struct {
		fifths int
		minor  bool
	}{{0, false}, {0, true}, {7, false}, {-7, true}} {
		eachSet(allTones(), 5, func(set []impl.Pitch) { checkDegree(t, key.fifths, key.minor, set, -1) })
	}
	eachKey(func(fifths int, minor bool) {
		scale := writtenScale(t, fifths, minor)
		for count := 5; count <= 7; count++ {
			eachSet(scale[:7], count, func(set []impl.Pitch) { checkDegree(t, fifths, minor, set, -1) })
		}
		checkDegree(t, fifths, minor, scale, -1)
	})
}

func TestP61DegreesHaveTheChordsClasses(t *testing.T) {
	for _, c := range keyedChords(t) {
		eachSpread(c.tones, []int{1, 4, 6}, func(spread []impl.Pitch) {
			degree := impl.DegreeOfChord(c.fifths, c.minor, spread)
			classes := impl.KeyClasses(spread)
			with := impl.KeyClasses(impl.ChordOn(c.fifths, c.minor, degree, c.seventh))
			without := impl.KeyClasses(impl.ChordOn(c.fifths, c.minor, degree, !c.seventh))
			if !slices.Equal(with, classes) || slices.Equal(without, classes) {
				t.Fatal(c, spread, degree, classes, with, without)
			}
		})
	}
}

func TestP61NoDegreeHasNoClasses(t *testing.T) {
	none := 0
	for _, list := range randomLists() {
		if len(list) == 0 {
			continue
		}
		eachKey(func(fifths int, minor bool) {
			degree := impl.DegreeOfChord(fifths, minor, list)
			with, without := impl.ChordOn(fifths, minor, degree, true), impl.ChordOn(fifths, minor, degree, false)
			if degree == -1 {
				none++
				if len(with) != 0 || len(without) != 0 {
					t.Fatal(fifths, minor, list, with, without)
				}
				return
			}
			if spelling(list) != spelling(with) && spelling(list) != spelling(without) {
				t.Fatal(fifths, minor, list, degree)
			}
		})
	}
	if none < 10000 {
		t.Fatal(none)
	}
}

func TestP61OctavesDoNotMatter(t *testing.T) {
	few, all := []int{0, 4, 8}, []int{0, 1, 2, 3, 4, 5, 6, 7, 8}
	for _, c := range keyedChords(t) {
		octaves := few
		if c.fifths%7 == 0 {
			octaves = all
		}
		eachSpread(c.tones, octaves, func(spread []impl.Pitch) {
			checkDegree(t, c.fifths, c.minor, spread, c.degree)
		})
	}
}

func TestP61PositionsAndOrdersDoNotMatter(t *testing.T) {
	for _, c := range keyedChords(t) {
		chord := slices.Clone(c.tones)
		for number := 0; chord[number].Octave < 8; number = (number + 1) % len(chord) {
			for _, order := range ordersOf(chord) {
				checkDegree(t, c.fifths, c.minor, order, c.degree)
			}
			chord[number].Octave++
		}
	}
}

func TestP61DoubledTonesDoNotMatter(t *testing.T) {
	source := rand.New(rand.NewPCG(11, 61))
	for _, c := range keyedChords(t) {
		for range 20 {
			list := slices.Clone(c.tones)
			for len(list) < 12 {
				tone := c.tones[source.IntN(len(c.tones))]
				tone.Octave = source.IntN(9)
				list = append(list, tone)
				source.Shuffle(len(list), func(a int, b int) { list[a], list[b] = list[b], list[a] })
				checkDegree(t, c.fifths, c.minor, list, c.degree)
			}
		}
		same := slices.Repeat(c.tones, 12/len(c.tones))
		checkDegree(t, c.fifths, c.minor, same, c.degree)
	}
}

func TestP61RandomPitches(t *testing.T) {
	found := 0
	lists := randomLists()
	eachKey(func(fifths int, minor bool) {
		degrees := degreesIn(t, fifths, minor)
		for _, list := range lists {
			if len(list) > 0 && checkSpelled(t, degrees, fifths, minor, list) >= 0 {
				found++
			}
		}
	})
	if found < 1000 {
		t.Fatal(found)
	}
}

func TestP61DegreesByText(t *testing.T) {
	cases := []struct {
		fifths int
		minor  bool
		text   string
		degree int
	}{
		{0, false, "C4 E4 G4", 0},
		{0, false, "F4 A4 C4", 3},
		{0, false, "C5 A4 F4 F3 C2", 3},
		{0, false, "B8 D0 F4", 6},
		{0, false, "B3 D4 F4 A4", 6},
		{0, false, "G4 B4 D5 F5", 4},
		{0, false, "G4 B4 D5 F#5", -1},
		{0, false, "D4 F#4 A4", -1}, // chords, but not of the key
		{0, false, "C4 Eb4 G4", -1},
		{0, false, "C4 E4 G4 Bb4", -1},
		{0, false, "E4 G#4 B4", -1},
		{0, false, "C4 E4 G#4", -1},
		{0, false, "B3 D4 F4 Ab4", -1},
		{0, false, "C4 E4 Abb4", -1}, // the same keys, and other steps
		{0, false, "C4 Fb4 G4", -1},
		{0, false, "B#3 E4 G4", -1},
		{0, false, "C4 E4 G4 B#4", -1},
		{0, false, "C4 D4 E4", -1}, // in the key, but no chords
		{0, false, "C4 F4 G4", -1},
		{0, false, "C4 E4", -1},
		{0, false, "C4 G4", -1},
		{0, false, "C4 E4 B4", -1}, // without the fifth
		{0, false, "C4 G4 B4", -1}, // without the third
		{0, false, "E4 G4 B4", 2},  // a seventh chord without its root is the chord two degrees above
		{0, false, "C4 E4 G4 A4", 5},
		{0, false, "C4 E4 G4 B4", 0},
		{0, false, "C4 E4 G4 F4", -1},
		{0, false, "C4 E4 G4 B4 D5", -1},
		{0, false, "C4", -1},
		{0, true, "A3 C4 E4", 0},
		{0, true, "C4 E4 G4", 2},
		{0, true, "E4 G#4 B4", -1}, // the seventh degree is not raised
		{0, true, "E4 G4 B4", 4},
		{0, true, "G4 B4 D5 F5", 6},
		{1, false, "D4 F#4 A4", 4},
		{1, false, "D4 F4 A4", -1},
		{2, false, "D4 F#4 A4", 0},
		{1, false, "F#4 A4 C5", 6},
		{-3, true, "C4 Eb4 G4", 0},
		{-3, true, "Ab3 C4 Eb4 G4", 5},
		{-3, true, "G#3 C4 Eb4 G4", -1},
		{6, false, "F#4 A#4 C#5", 0},
		{-6, false, "F#4 A#4 C#5", -1}, // the same keys in another key
		{-6, false, "Gb4 Bb4 Db5", 0},
		{7, false, "B#8 D#8 F#8", 6}, // keys beyond the last one
		{-7, false, "Cb0 Eb0 Gb0", 0},
		{-7, false, "Cbb0 Ebb0 Gbb0", -1}, // keys below 0
		{-7, true, "Fb0 Ab0 Cb0", 5},
	}
	for _, c := range cases {
		checkDegree(t, c.fifths, c.minor, pitchesOf(t, c.text), c.degree)
	}
}

func TestP61WithAToneLessOrMore(t *testing.T) {
	for _, c := range keyedChords(t) {
		degrees := degreesIn(t, c.fifths, c.minor)
		for at := range c.tones {
			want := -1
			if c.seventh && at == 3 {
				want = c.degree
			}
			if c.seventh && at == 0 {
				want = (c.degree + 2) % 7
			}
			checkDegree(t, c.fifths, c.minor, slices.Concat(c.tones[:at], c.tones[at+1:]), want)
		}
		for _, further := range allTones() {
			more := append(slices.Clone(c.tones), further)
			checkSpelled(t, degrees, c.fifths, c.minor, more)
			// Only a doubled tone and a seventh leave the degree.
			stays := slices.ContainsFunc(chordIn(t, c.fifths, c.minor, c.degree, true), func(p impl.Pitch) bool { return sameTone(p, further) })
			if (impl.DegreeOfChord(c.fifths, c.minor, more) == c.degree) != stays {
				t.Fatal(c, further)
			}
		}
	}
}

func TestP61OtherStepsHaveNoDegree(t *testing.T) {
	for _, c := range keyedChords(t) {
		for at, tone := range c.tones {
			for _, other := range allPitches() {
				if keyOf(other) != keyOf(tone) || other.Step == tone.Step {
					continue
				}
				list := slices.Clone(c.tones)
				list[at] = other
				if !slices.Equal(impl.KeyClasses(list), classesIn(c.tones)) {
					t.Fatal(c, list)
				}
				checkDegree(t, c.fifths, c.minor, list, -1)
				checkDegree(t, c.fifths, c.minor, append(list, tone), -1)
			}
		}
	}
}

func TestP61OtherAlterationsHaveNoDegree(t *testing.T) {
	for _, c := range keyedChords(t) {
		for at, tone := range c.tones {
			for alter := -2; alter <= 2; alter++ {
				list := slices.Clone(c.tones)
				list[at].Alter = alter
				if alter != tone.Alter {
					checkDegree(t, c.fifths, c.minor, list, -1)
				}
			}
		}
	}
}

func TestP61ChordsOfOtherKeysHaveNoDegree(t *testing.T) {
	names := chordNames(t)
	of, none := 0, 0
	eachKey(func(fifths int, minor bool) {
		degrees := degreesIn(t, fifths, minor)
		for _, name := range names {
			chord, _ := chordFrom(name.root, name.kind)
			if checkSpelled(t, degrees, fifths, minor, chord) >= 0 {
				of++
			} else {
				none++
			}
		}
	})
	if of != 30*14 || none != 30*(len(names)-14) {
		t.Fatal(of, none)
	}
}

func TestP61OnePitchHasNoDegree(t *testing.T) {
	eachKey(func(fifths int, minor bool) {
		for _, p := range allPitches() {
			for _, count := range []int{1, 2, 3, 4, 12} {
				checkDegree(t, fifths, minor, slices.Repeat([]impl.Pitch{p}, count), -1)
			}
		}
	})
}

func TestP61TwelvePitchesAreTheMost(t *testing.T) {
	for _, c := range keyedChords(t) {
		list := slices.Repeat(c.tones, 12)
		for count := len(c.tones); count <= 12; count++ {
			checkDegree(t, c.fifths, c.minor, list[:count], c.degree)
		}
		for _, count := range []int{13, 14, 16, 24, len(list)} {
			checkDegree(t, c.fifths, c.minor, list[:count], -1)
		}
	}
	eachKey(func(fifths int, minor bool) {
		checkDegree(t, fifths, minor, nil, -1)
		checkDegree(t, fifths, minor, []impl.Pitch{}, -1)
		tonic := chordIn(t, fifths, minor, 0, false)
		for _, count := range []int{60, 256, 256 + 3, 1<<16 + 3} {
			checkDegree(t, fifths, minor, slices.Repeat(tonic, count)[:count], -1)
		}
	})
}

func TestP61OtherPitchesHaveNoDegree(t *testing.T) {
	keys := []struct {
		fifths int
		minor  bool
	}{{0, false}, {0, true}, {7, true}, {-7, false}}
	for _, key := range keys {
		four := chordIn(t, key.fifths, key.minor, 4, true)
		for _, bad := range badPitches() {
			checkDegree(t, key.fifths, key.minor, []impl.Pitch{bad}, -1)
			for _, at := range []int{0, 2, 4} {
				checkDegree(t, key.fifths, key.minor, slices.Insert(slices.Clone(four), at, bad), -1)
			}
			for _, at := range []int{0, 2, 3} {
				list := slices.Clone(four)
				list[at] = bad
				checkDegree(t, key.fifths, key.minor, list, -1)
			}
			checkDegree(t, key.fifths, key.minor, append(slices.Repeat(four, 3)[:11], bad), -1)
		}
	}
}

// TestP61PitchesNearTonesHaveNoDegree tries pitches that have the step and the alteration of a tone, or its key, but are not valid.
func TestP61PitchesNearTonesHaveNoDegree(t *testing.T) {
	for _, c := range keyedChords(t) {
		for at, tone := range c.tones {
			for _, bad := range []impl.Pitch{
				{Step: tone.Step, Alter: tone.Alter, Octave: -1},
				{Step: tone.Step, Alter: tone.Alter, Octave: 9},
				{Step: tone.Step + 7, Alter: tone.Alter, Octave: 3},
				{Step: tone.Step - 7, Alter: tone.Alter, Octave: 5},
				{Step: tone.Step, Alter: tone.Alter + 12, Octave: 3},
				{Step: tone.Step, Alter: tone.Alter, Octave: math.MinInt},
				{Step: tone.Step, Alter: tone.Alter, Octave: math.MaxInt},
			} {
				list := slices.Clone(c.tones)
				list[at] = bad
				checkDegree(t, c.fifths, c.minor, list, -1)
				checkDegree(t, c.fifths, c.minor, append(slices.Clone(c.tones), bad), -1)
				checkDegree(t, c.fifths, c.minor, append([]impl.Pitch{bad}, c.tones...), -1)
			}
		}
	}
}

func TestP61OtherKeysHaveNoDegrees(t *testing.T) {
	var lists [][]impl.Pitch
	for _, c := range keyedChords(t) {
		lists = append(lists, c.tones)
	}
	lists = append(lists, lentPitches(t)...)
	for _, fifths := range badKeys() {
		for _, minor := range modes {
			for _, list := range lists {
				checkDegree(t, fifths, minor, list, -1)
			}
		}
	}
}

func TestP61PitchesAreOnlyRead(t *testing.T) {
	lists := lentPitches(t)
	eachKey(func(fifths int, minor bool) {
		degrees := degreesIn(t, fifths, minor)
		for _, list := range lists {
			lent, check := lendPitches(list)
			invalid := slices.ContainsFunc(list, func(p impl.Pitch) bool { return !pitchIsValid(p) })
			if len(list) == 0 || len(list) > 12 || invalid {
				checkDegree(t, fifths, minor, lent, -1)
			} else {
				checkSpelled(t, degrees, fifths, minor, lent)
			}
			check(t)
		}
	})
	for _, c := range keyedChords(t) {
		lent, check := lendPitches(c.tones)
		checkDegree(t, c.fifths, c.minor, lent, c.degree)
		check(t)
	}
}

func TestP62ProgressionsGoOn(t *testing.T) {
	with, without := 0, 0
	for count := range 7 {
		eachDegrees(count, func(degrees []int) {
			fault := followFault(degrees)
			checkProgression(t, degrees, fault)
			if fault < 0 {
				without++
				return
			}
			with++
			if fault == 0 || !slices.Contains(forbidden, [2]int{degrees[fault-1], degrees[fault]}) {
				t.Fatal(degrees, fault)
			}
			for end := range fault + 1 {
				checkProgression(t, degrees[:end], -1)
			}
			checkProgression(t, degrees[:fault+1], fault)
			checkProgression(t, degrees[fault-1:], 1)
		})
	}
	if with < 10000 || without < 10000 {
		t.Fatal(with, without)
	}
}

func TestP62PartsWithoutFaultHaveNone(t *testing.T) {
	for count := range 6 {
		eachDegrees(count, func(degrees []int) {
			if impl.ProgressionFault(degrees) != -1 {
				return
			}
			for from := range degrees {
				for end := from; end <= count; end++ {
					checkProgression(t, degrees[from:end], -1)
				}
			}
		})
	}
}

func TestP62EachDegreeAfterEach(t *testing.T) {
	for _, before := range allDegrees {
		for _, degree := range allDegrees {
			want := -1
			if (before == 4 || before == 6) && (degree == 1 || degree == 3) {
				want = 1
			}
			checkProgression(t, []int{before, degree}, want)
		}
	}
}

func TestP62LongProgressions(t *testing.T) {
	with := 0
	for _, degrees := range randomDegrees() {
		fault := followFault(degrees)
		checkProgression(t, degrees, fault)
		if fault >= 0 {
			with++
			checkProgression(t, degrees[:fault], -1)
		}
	}
	if with < 500 {
		t.Fatal(with)
	}
	for _, count := range []int{60, 61, 255, 256, 257, 1 << 16, 1<<16 + 1} {
		calm := slices.Repeat([]int{0, 4, 5, 6}, count/4+1)[:count]
		checkProgression(t, calm, -1)
		for _, pair := range forbidden {
			checkProgression(t, append(slices.Clone(calm), pair[0], pair[1]), count+1)
		}
	}
}

func TestP62ProgressionsByText(t *testing.T) {
	cases := map[string]int{
		"":              -1,
		"0":             -1,
		"1":             -1,
		"3":             -1,
		"4":             -1,
		"6":             -1,
		"41":            1, // at the first place where it can be
		"43":            1,
		"61":            1,
		"63":            1,
		"14":            -1, // the other way round
		"34":            -1,
		"16":            -1,
		"36":            -1,
		"043":           2,
		"0340":          -1,
		"401":           -1, // a degree between them
		"4014 3":        4,
		"441":           2,
		"461":           2,
		"664":           -1,
		"40 45 46 42":   -1,
		"60 62 64 65 6": -1,
		"0123 0123 41":  9, // at the last place
		"41 41 41":      1, // several faults
		"43 63 61":      1,
		"0 43 0 61":     2,
		"01 34 01 34 3": 8,
		"4141":          1,
		"5 6 3 6 3":     2,
	}
	for text, want := range cases {
		checkProgression(t, degreesOf(t, text), want)
	}
}

func TestP62SeveralFaults(t *testing.T) {
	calm := []int{0, 1, 2, 3, 5}
	for _, first := range forbidden {
		for _, second := range forbidden {
			for before := range calm {
				for between := range calm {
					degrees := slices.Concat(calm[:before], first[:], calm[:between], second[:], calm[:before])
					checkProgression(t, degrees, before+1)
				}
			}
		}
	}
}

func TestP62OtherDegreesHaveNoFault(t *testing.T) {
	for _, bad := range badDegrees() {
		checkProgression(t, []int{bad}, -1)
		checkProgression(t, []int{bad, bad}, -1)
		for _, degree := range allDegrees {
			checkProgression(t, []int{bad, degree}, -1)
			checkProgression(t, []int{degree, bad}, -1)
		}
		for _, text := range []string{"41", "63", "043", "0340", "0415 6 3 0", "01 23 01 61"} {
			degrees := degreesOf(t, text)
			for at := range len(degrees) + 1 {
				checkProgression(t, slices.Insert(slices.Clone(degrees), at, bad), -1)
			}
			for at := range degrees {
				changed := slices.Clone(degrees)
				changed[at] = bad
				checkProgression(t, changed, -1)
			}
		}
	}
	for _, degrees := range randomDegrees()[:200] {
		for _, bad := range fewBadDegrees() {
			for at := range len(degrees) + 1 {
				checkProgression(t, slices.Insert(slices.Clone(degrees), at, bad), -1)
			}
		}
	}
}

func TestP62DegreesAreOnlyRead(t *testing.T) {
	for count := range 4 {
		eachDegrees(count, func(degrees []int) {
			lent, check := lendDegrees(degrees)
			checkProgression(t, lent, followFault(degrees))
			check(t)
		})
	}
	for _, bad := range badDegrees() {
		lent, check := lendDegrees([]int{4, 1, bad, 4, 3})
		checkProgression(t, lent, -1)
		check(t)
	}
}

func TestP63CadencesHaveNumbers(t *testing.T) {
	for at, cadence := range []int{impl.CadenceNone, impl.CadenceFull, impl.CadenceSoft, impl.CadenceFalse, impl.CadenceHalf} {
		if cadence != at {
			t.Fatal(at, cadence)
		}
	}
}

func TestP63CadencesAreEnds(t *testing.T) {
	for count := 2; count < 7; count++ {
		eachDegrees(count, func(degrees []int) {
			checkCadence(t, degrees, cadences[[2]int{degrees[count-2], degrees[count-1]}])
		})
	}
}

func TestP63CadencesByText(t *testing.T) {
	cases := map[string]int{
		"":         impl.CadenceNone,
		"0":        impl.CadenceNone,
		"4":        impl.CadenceNone,
		"5":        impl.CadenceNone,
		"40":       impl.CadenceFull,
		"30":       impl.CadenceSoft,
		"45":       impl.CadenceFalse,
		"04":       impl.CadenceHalf,
		"14":       impl.CadenceHalf,
		"24":       impl.CadenceHalf,
		"34":       impl.CadenceHalf,
		"54":       impl.CadenceHalf,
		"64":       impl.CadenceHalf,
		"44":       impl.CadenceNone,
		"444":      impl.CadenceNone,
		"00":       impl.CadenceNone,
		"20":       impl.CadenceNone,
		"50":       impl.CadenceNone,
		"60":       impl.CadenceNone,
		"35":       impl.CadenceNone,
		"55":       impl.CadenceNone,
		"43":       impl.CadenceNone,
		"030":      impl.CadenceSoft,
		"0340":     impl.CadenceFull,
		"0345":     impl.CadenceFalse,
		"034":      impl.CadenceHalf,
		"0344":     impl.CadenceNone,
		"0400":     impl.CadenceNone, // a cadence, but not at the end
		"4051":     impl.CadenceNone,
		"4 0 3 0":  impl.CadenceSoft,
		"3 0 4 5":  impl.CadenceFalse,
		"41 63 40": impl.CadenceFull, // with faults before it
	}
	for text, want := range cases {
		checkCadence(t, degreesOf(t, text), want)
	}
}

func TestP63OneDegreeHasNoCadence(t *testing.T) {
	checkCadence(t, nil, impl.CadenceNone)
	checkCadence(t, []int{}, impl.CadenceNone)
	for _, degree := range slices.Concat(allDegrees, badDegrees()) {
		checkCadence(t, []int{degree}, impl.CadenceNone)
	}
}

func TestP63DegreesBeforeDoNotMatter(t *testing.T) {
	lists := randomDegrees()[:200]
	for _, bad := range badDegrees() {
		lists = append(lists, []int{bad}, []int{4, bad}, []int{bad, 4}, []int{4, 1, bad, 0, 0})
	}
	lists = append(lists, make([]int, 1<<16), slices.Repeat([]int{4}, 257))
	for _, before := range allDegrees {
		for _, last := range allDegrees {
			want := cadences[[2]int{before, last}]
			for _, list := range lists {
				checkCadence(t, append(slices.Clone(list), before, last), want)
			}
		}
	}
}

// TestP63NumbersBeyondTheDegrees takes the document at its word, which asks for no cadence that its numbers be in 0..6: every number beside 4 is another one than 4.
func TestP63NumbersBeyondTheDegrees(t *testing.T) {
	for _, bad := range badDegrees() {
		checkCadence(t, []int{bad, 4}, impl.CadenceHalf)
		checkCadence(t, []int{4, 0, bad, 4}, impl.CadenceHalf)
		checkCadence(t, []int{bad, bad}, impl.CadenceNone)
		for _, degree := range allDegrees {
			checkCadence(t, []int{degree, bad}, impl.CadenceNone)
			checkCadence(t, []int{4, 0, degree, bad}, impl.CadenceNone)
			if degree != 4 {
				checkCadence(t, []int{bad, degree}, impl.CadenceNone)
				checkCadence(t, []int{4, bad, degree}, impl.CadenceNone)
			}
		}
	}
}

func TestP63DegreesAreOnlyRead(t *testing.T) {
	for count := range 4 {
		eachDegrees(count, func(degrees []int) {
			want := impl.CadenceNone
			if count > 1 {
				want = cadences[[2]int{degrees[count-2], degrees[count-1]}]
			}
			lent, check := lendDegrees(degrees)
			checkCadence(t, lent, want)
			check(t)
		})
	}
}

// relatives are the tonics of all keys, major and minor, from the most flats on.
var relatives = []string{
	"Cb4 Ab4", "Gb4 Eb4", "Db4 Bb4", "Ab4 F4", "Eb4 C4", "Bb4 G4", "F4 D4", "C4 A4",
	"G4 E4", "D4 B4", "A4 F#4", "E4 C#4", "B4 G#4", "F#4 D#4", "C#4 A#4",
}

func TestP119MinorTonicsAreBelowMajorOnes(t *testing.T) {
	below, above := 0, 0
	for _, fifths := range validKeys() {
		major, _ := impl.KeyTonic(fifths, false)
		minor, ok := impl.KeyTonic(fifths, true)
		if !ok || pitchesText([]impl.Pitch{major, minor}) != relatives[fifths+7] {
			t.Fatal(fifths, major, minor)
		}
		switch way := wayBetween(major, minor); way {
		case impl.Interval{Steps: -2, Halves: -3}:
			below++
		case impl.Interval{Steps: 5, Halves: 9}:
			above++
		default:
			t.Fatal(fifths, major, minor, way)
		}
		if key, ok := impl.KeyOf(minor, true); !ok || key != fifths {
			t.Fatal(fifths, minor, key, ok)
		}
	}
	if below != 10 || above != 5 {
		t.Fatal(below, above)
	}
}

func TestP119MinorKeysAreMajorKeys(t *testing.T) {
	for _, fifths := range validKeys() {
		major, minor := impl.KeyScale(fifths, false), impl.KeyScale(fifths, true)
		if len(major) != 8 || len(minor) != 8 || spelling(major) != spelling(minor) {
			t.Fatal(fifths, major, minor)
		}
		if !slices.Equal(impl.KeyClasses(major), impl.KeyClasses(minor)) || len(impl.KeyClasses(minor)) != 7 {
			t.Fatal(fifths, major, minor)
		}
		for degree, tone := range minor[:7] {
			if !sameTone(tone, major[(degree+5)%7]) || !impl.InKey(fifths, tone) {
				t.Fatal(fifths, major, minor)
			}
		}
	}
}

func TestP119DegreesAreTwoMore(t *testing.T) {
	for _, fifths := range validKeys() {
		for _, p := range allPitches() {
			degree, more := impl.DegreeOf(fifths, false, p)
			if other, most := impl.DegreeOf(fifths, true, p); degree < 0 || other != (degree+2)%7 || most != more {
				t.Fatal(fifths, p, degree, more, other, most)
			}
		}
	}
}

func TestP119ChordsAreTheSame(t *testing.T) {
	for _, fifths := range validKeys() {
		for _, degree := range allDegrees {
			for _, seventh := range []bool{false, true} {
				major := impl.ChordOn(fifths, false, degree, seventh)
				minor := impl.ChordOn(fifths, true, (degree+2)%7, seventh)
				if len(major) == 0 || len(minor) != len(major) {
					t.Fatal(fifths, degree, major, minor)
				}
				// Both differ at most by an octave, the same one for all tones.
				distance := minor[0].Octave - major[0].Octave
				for number, tone := range major {
					if !sameTone(tone, minor[number]) || minor[number].Octave-tone.Octave != distance {
						t.Fatal(fifths, degree, major, minor)
					}
				}
				checkDegree(t, fifths, true, major, (degree+2)%7)
				checkDegree(t, fifths, false, minor, degree)
			}
		}
	}
	for _, list := range randomLists() {
		for _, fifths := range validKeys() {
			want := impl.DegreeOfChord(fifths, false, list)
			if want >= 0 {
				want = (want + 2) % 7
			}
			checkDegree(t, fifths, true, list, want)
		}
	}
}

func TestP119OtherKeysAreNeither(t *testing.T) {
	for _, fifths := range badKeys() {
		for _, minor := range modes {
			if tonic, ok := impl.KeyTonic(fifths, minor); ok || tonic != (impl.Pitch{}) {
				t.Fatal(fifths, minor, tonic)
			}
			if scale, chord := impl.KeyScale(fifths, minor), impl.ChordOn(fifths, minor, 0, false); len(scale) != 0 || len(chord) != 0 {
				t.Fatal(fifths, minor, scale, chord)
			}
			for _, p := range []impl.Pitch{{}, {Octave: 4}, {Step: 5, Octave: 4}} {
				if degree, more := impl.DegreeOf(fifths, minor, p); degree != -1 || more != 0 || impl.InKey(fifths, p) {
					t.Fatal(fifths, minor, p, degree, more)
				}
			}
		}
	}
}
