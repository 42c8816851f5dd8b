package tests

import (
	"math"
	"slices"
	"strings"
	"testing"

	"loop.example/musicengine/impl"
)

// majorScales and minorScales hold the scales of all keys, written out so that the tests do not depend on the program's tables.
var majorScales = map[int]string{
	-7: "Cb4 Db4 Eb4 Fb4 Gb4 Ab4 Bb4 Cb5",
	-6: "Gb4 Ab4 Bb4 Cb5 Db5 Eb5 F5 Gb5",
	-5: "Db4 Eb4 F4 Gb4 Ab4 Bb4 C5 Db5",
	-4: "Ab4 Bb4 C5 Db5 Eb5 F5 G5 Ab5",
	-3: "Eb4 F4 G4 Ab4 Bb4 C5 D5 Eb5",
	-2: "Bb4 C5 D5 Eb5 F5 G5 A5 Bb5",
	-1: "F4 G4 A4 Bb4 C5 D5 E5 F5",
	0:  "C4 D4 E4 F4 G4 A4 B4 C5",
	1:  "G4 A4 B4 C5 D5 E5 F#5 G5",
	2:  "D4 E4 F#4 G4 A4 B4 C#5 D5",
	3:  "A4 B4 C#5 D5 E5 F#5 G#5 A5",
	4:  "E4 F#4 G#4 A4 B4 C#5 D#5 E5",
	5:  "B4 C#5 D#5 E5 F#5 G#5 A#5 B5",
	6:  "F#4 G#4 A#4 B4 C#5 D#5 E#5 F#5",
	7:  "C#4 D#4 E#4 F#4 G#4 A#4 B#4 C#5",
}

var minorScales = map[int]string{
	-7: "Ab4 Bb4 Cb5 Db5 Eb5 Fb5 Gb5 Ab5",
	-6: "Eb4 F4 Gb4 Ab4 Bb4 Cb5 Db5 Eb5",
	-5: "Bb4 C5 Db5 Eb5 F5 Gb5 Ab5 Bb5",
	-4: "F4 G4 Ab4 Bb4 C5 Db5 Eb5 F5",
	-3: "C4 D4 Eb4 F4 G4 Ab4 Bb4 C5",
	-2: "G4 A4 Bb4 C5 D5 Eb5 F5 G5",
	-1: "D4 E4 F4 G4 A4 Bb4 C5 D5",
	0:  "A4 B4 C5 D5 E5 F5 G5 A5",
	1:  "E4 F#4 G4 A4 B4 C5 D5 E5",
	2:  "B4 C#5 D5 E5 F#5 G5 A5 B5",
	3:  "F#4 G#4 A4 B4 C#5 D5 E5 F#5",
	4:  "C#4 D#4 E4 F#4 G#4 A4 B4 C#5",
	5:  "G#4 A#4 B4 C#5 D#5 E5 F#5 G#5",
	6:  "D#4 E#4 F#4 G#4 A#4 B4 C#5 D#5",
	7:  "A#4 B#4 C#5 D#5 E#5 F#5 G#5 A#5",
}

var modes = []bool{false, true}

// sharpOrder holds the steps in the order in which sharps come on them; flats come in the reverse order.
var sharpOrder = []int{3, 0, 4, 1, 5, 2, 6}

func validKeys() []int {
	var keys []int
	for fifths := -7; fifths <= 7; fifths++ {
		keys = append(keys, fifths)
	}
	return keys
}

// badKeys are outside of -7..7; some of them come back within it if seven is added to them, or if they are multiplied, and that wraps around.
func badKeys() []int {
	var keys []int
	for distance := 1; distance <= 60; distance++ {
		keys = append(keys, 7+distance, -7-distance)
	}
	for near := -8; near <= 8; near++ {
		keys = append(keys, 1<<62+near, -1<<62+near, math.MinInt+8+near, math.MaxInt-8+near)
	}
	return append(keys, farNumbers...)
}

// writtenScale reads the scale that is written out above.
func writtenScale(t *testing.T, fifths int, minor bool) []impl.Pitch {
	t.Helper()
	text := majorScales[fifths]
	if minor {
		text = minorScales[fifths]
	}
	var scale []impl.Pitch
	for _, name := range strings.Fields(text) {
		scale = append(scale, readPitch(t, name))
	}
	return scale
}

// orderedAlter is the alteration of a step in a valid key, counted along the order of sharps or of flats.
func orderedAlter(fifths int, step int) int {
	at := slices.Index(sharpOrder, step)
	if at < fifths {
		return 1
	}
	if 6-at < -fifths {
		return -1
	}
	return 0
}

// sameTone reports whether two pitches differ at most in the octave.
func sameTone(a impl.Pitch, b impl.Pitch) bool {
	return a.Step == b.Step && a.Alter == b.Alter
}

func TestP2ScalesGoUpInWholeAndHalfTones(t *testing.T) {
	for _, minor := range modes {
		halves := []int{2, 6}
		if minor {
			halves = []int{1, 4}
		}
		for _, fifths := range validKeys() {
			scale := impl.KeyScale(fifths, minor)
			if len(scale) != 8 {
				t.Fatal(fifths, minor, scale)
			}
			for i := 0; i < 7; i++ {
				want := 2
				if slices.Contains(halves, i) {
					want = 1
				}
				if impl.PitchKey(scale[i+1])-impl.PitchKey(scale[i]) != want || impl.PitchPlace(scale[i+1])-impl.PitchPlace(scale[i]) != 1 {
					t.Fatal(fifths, minor, i, scale)
				}
			}
			if v, ok := impl.IntervalOf(scale[0], scale[7]); !ok || v != octave {
				t.Fatal(fifths, minor, scale)
			}
		}
	}
}

func TestP2ScalesByName(t *testing.T) {
	for _, minor := range modes {
		for _, fifths := range validKeys() {
			scale, want := impl.KeyScale(fifths, minor), writtenScale(t, fifths, minor)
			if len(want) != 8 || !slices.Equal(scale, want) {
				t.Fatal(fifths, minor, scale, want)
			}
		}
	}
}

func TestP2OtherKeysHaveNoScale(t *testing.T) {
	for _, fifths := range badKeys() {
		for _, minor := range modes {
			if scale := impl.KeyScale(fifths, minor); len(scale) != 0 {
				t.Fatal(fifths, minor, scale)
			}
		}
	}
}

func TestP2ScalesAreNewMemory(t *testing.T) {
	for _, minor := range modes {
		for _, fifths := range validKeys() {
			scale := impl.KeyScale(fifths, minor)
			whole := scale[:cap(scale)]
			for i := range whole {
				whole[i] = impl.Pitch{Step: -1}
			}
			if again := impl.KeyScale(fifths, minor); !slices.Equal(again, writtenScale(t, fifths, minor)) {
				t.Fatal(fifths, minor, again)
			}
		}
	}
}

func TestP23KeysHaveAlterations(t *testing.T) {
	for _, fifths := range validKeys() {
		sum := 0
		for step := 0; step <= 6; step++ {
			alter := impl.KeyAlter(fifths, step)
			if alter*fifths < 0 || alter != orderedAlter(fifths, step) {
				t.Fatal(fifths, step, alter)
			}
			sum += alter
		}
		if sum != fifths {
			t.Fatal(fifths, sum)
		}
	}
}

func TestP23AlterationsByName(t *testing.T) {
	cases := []struct{ fifths, step, alter int }{
		{0, 0, 0},
		{0, 3, 0},
		{1, 3, 1}, // the first sharp
		{1, 0, 0},
		{2, 0, 1},
		{5, 5, 1},
		{5, 2, 0},
		{6, 2, 1},
		{6, 6, 0},
		{7, 6, 1}, // the last sharp
		{7, 3, 1},
		{-1, 6, -1}, // the first flat
		{-1, 2, 0},
		{-2, 2, -1},
		{-3, 5, -1},
		{-3, 1, 0},
		{-6, 0, -1},
		{-6, 3, 0},
		{-7, 3, -1}, // the last flat
		{-7, 6, -1},
		{8, 3, 0},
		{-8, 6, 0},
		{7, 7, 0},
		{7, -1, 0},
		{-7, 7, 0},
		{-7, -1, 0},
		{8, 7, 0},
		{-8, -1, 0},
	}
	for _, c := range cases {
		if alter := impl.KeyAlter(c.fifths, c.step); alter != c.alter {
			t.Fatal(c, alter)
		}
	}
}

func TestP23InvalidArguments(t *testing.T) {
	for _, fifths := range badKeys() {
		for step := -9; step <= 16; step++ {
			if alter := impl.KeyAlter(fifths, step); alter != 0 {
				t.Fatal(fifths, step, alter)
			}
		}
	}
	badSteps := slices.Clone(farNumbers)
	for distance := 1; distance <= 40; distance++ {
		badSteps = append(badSteps, -distance, 6+distance)
	}
	for _, fifths := range append(validKeys(), badKeys()...) {
		for _, step := range badSteps {
			if alter := impl.KeyAlter(fifths, step); alter != 0 {
				t.Fatal(fifths, step, alter)
			}
		}
	}
}

func TestP24KeysHaveTonics(t *testing.T) {
	for _, minor := range modes {
		for _, fifths := range validKeys() {
			tonic, ok := impl.KeyTonic(fifths, minor)
			if !ok || tonic.Octave != 4 || tonic != writtenScale(t, fifths, minor)[0] {
				t.Fatal(fifths, minor, tonic, ok)
			}
			if key, ok := impl.KeyOf(tonic, minor); !ok || key != fifths {
				t.Fatal(fifths, minor, tonic, key, ok)
			}
			if !impl.InKey(fifths, tonic) {
				t.Fatal(fifths, minor, tonic)
			}
		}
	}
}

func TestP24StepsOfTonics(t *testing.T) {
	for _, fifths := range validKeys() {
		major, _ := impl.KeyTonic(fifths, false)
		minor, _ := impl.KeyTonic(fifths, true)
		if want := (4*fifths + 28) % 7; major.Step != want || minor.Step != (want+5)%7 {
			t.Fatal(fifths, major, minor)
		}
		if major.Alter != orderedAlter(fifths, major.Step) || minor.Alter != orderedAlter(fifths, minor.Step) {
			t.Fatal(fifths, major, minor)
		}
	}
}

func TestP24OtherKeysHaveNoTonic(t *testing.T) {
	for _, fifths := range badKeys() {
		for _, minor := range modes {
			if tonic, ok := impl.KeyTonic(fifths, minor); ok || tonic != (impl.Pitch{}) {
				t.Fatal(fifths, minor, tonic, ok)
			}
		}
	}
}

func TestP25PitchesAreInKeys(t *testing.T) {
	for _, fifths := range validKeys() {
		for _, p := range allPitches() {
			if impl.InKey(fifths, p) != (p.Alter == orderedAlter(fifths, p.Step)) {
				t.Fatal(fifths, p)
			}
		}
		for _, p := range impl.KeyScale(fifths, false) {
			for p.Octave = 0; p.Octave <= 8; p.Octave++ {
				if !impl.InKey(fifths, p) {
					t.Fatal(fifths, p)
				}
			}
		}
	}
}

func TestP25PitchesInKeysByName(t *testing.T) {
	cases := []struct {
		fifths int
		pitch  string
		in     bool
	}{
		{0, "C4", true},
		{0, "C#4", false},
		{0, "Cbb4", false},
		{0, "B##4", false},
		{1, "F#0", true},
		{1, "F#8", true},
		{1, "F8", false},
		{1, "Gb4", false}, // the key of F#4, but another step
		{-1, "Bb0", true},
		{-1, "Bb8", true},
		{-1, "B4", false},
		{-1, "A#4", false},
		{-1, "Bbb4", false},
		{7, "B#8", true}, // above the last key
		{7, "C5", false},
		{7, "F##4", false},
		{-7, "Cb0", true}, // below the first key
		{-7, "Fb4", true},
		{-7, "E4", false},
		{-7, "F4", false},
		{6, "B4", true},
		{-6, "F4", true},
		{-6, "Cb4", true},
	}
	for _, c := range cases {
		if impl.InKey(c.fifths, readPitch(t, c.pitch)) != c.in {
			t.Fatal(c)
		}
	}
}

func TestP25InvalidArguments(t *testing.T) {
	for _, fifths := range badKeys() {
		for _, p := range allPitches() {
			if impl.InKey(fifths, p) {
				t.Fatal(fifths, p)
			}
		}
	}
	for _, fifths := range append(validKeys(), 8, -8, math.MaxInt, math.MinInt) {
		for _, p := range badPitches() {
			if impl.InKey(fifths, p) {
				t.Fatal(fifths, p)
			}
		}
	}
}

func TestP26TonicsHaveKeys(t *testing.T) {
	for _, minor := range modes {
		found := 0
		for _, p := range allPitches() {
			want, exists := 0, false
			for _, fifths := range validKeys() {
				if sameTone(writtenScale(t, fifths, minor)[0], p) {
					want, exists = fifths, true
				}
			}
			fifths, ok := impl.KeyOf(p, minor)
			if ok != exists || fifths != want {
				t.Fatal(p, minor, fifths, ok)
			}
			if !ok {
				continue
			}
			found++
			if tonic, ok := impl.KeyTonic(fifths, minor); !ok || !sameTone(tonic, p) {
				t.Fatal(p, minor, fifths, tonic, ok)
			}
		}
		if found != 15*9 {
			t.Fatal(minor, found)
		}
	}
}

func TestP26KeysOfTonicsByName(t *testing.T) {
	cases := []struct {
		pitch  string
		minor  bool
		fifths int
		ok     bool
	}{
		{"C0", false, 0, true},
		{"C8", false, 0, true},
		{"C4", true, -3, true},
		{"Cb0", false, -7, true},
		{"Cb4", true, 0, false},
		{"C#8", false, 7, true},
		{"C#4", true, 4, true},
		{"F4", false, -1, true},
		{"Fb4", false, 0, false},
		{"F#4", false, 6, true},
		{"Gb4", false, -6, true}, // the key of F#4, but another step
		{"Gb4", true, 0, false},
		{"A4", true, 0, true},
		{"Ab4", true, -7, true},
		{"A#4", true, 7, true},
		{"A#4", false, 0, false},
		{"B#4", true, 0, false},
		{"E#4", true, 0, false},
		{"D#4", false, 0, false},
		{"D#4", true, 6, true},
		{"Cbb4", false, 0, false},
		{"D##4", true, 0, false},
		{"Bbb4", true, 0, false},
	}
	for _, c := range cases {
		if fifths, ok := impl.KeyOf(readPitch(t, c.pitch), c.minor); fifths != c.fifths || ok != c.ok {
			t.Fatal(c, fifths, ok)
		}
	}
}

func TestP26InvalidPitchesAreNoTonics(t *testing.T) {
	for _, p := range badPitches() {
		for _, minor := range modes {
			if fifths, ok := impl.KeyOf(p, minor); ok || fifths != 0 {
				t.Fatal(p, minor, fifths, ok)
			}
		}
	}
}

func TestP27DegreesAreInScales(t *testing.T) {
	for _, minor := range modes {
		for _, fifths := range validKeys() {
			scale, written := impl.KeyScale(fifths, minor), writtenScale(t, fifths, minor)
			for _, p := range allPitches() {
				degree, more := impl.DegreeOf(fifths, minor, p)
				if degree < 0 || degree > 6 {
					t.Fatal(fifths, minor, p, degree, more)
				}
				for _, tone := range []impl.Pitch{scale[degree], written[degree]} {
					tone.Alter += more
					if !sameTone(tone, p) {
						t.Fatal(fifths, minor, p, degree, more)
					}
				}
			}
		}
	}
}

func TestP27DegreesByName(t *testing.T) {
	cases := []struct {
		fifths       int
		minor        bool
		pitch        string
		degree, more int
	}{
		{0, false, "C4", 0, 0},
		{0, false, "C0", 0, 0},
		{0, false, "B8", 6, 0},
		{0, false, "Cb4", 0, -1}, // lower than the tonic, but on its step
		{0, false, "B#3", 6, 1},
		{0, false, "F#4", 3, 1},
		{0, false, "F##4", 3, 2},
		{0, false, "Fbb4", 3, -2},
		{0, true, "C4", 2, 0}, // below the tonic in its octave
		{0, true, "G#4", 6, 1},
		{0, true, "A4", 0, 0},
		{1, false, "F#4", 6, 0},
		{1, false, "F4", 6, -1},
		{1, false, "G0", 0, 0},
		{-1, false, "Bb8", 3, 0},
		{-1, false, "B4", 3, 1},
		{-3, true, "B4", 6, 1},
		{-3, true, "Eb0", 2, 0},
		{5, false, "A#4", 6, 0},
		{7, false, "Cbb4", 0, -3}, // two alterations in the other direction
		{7, true, "Gbb4", 6, -3},
		{7, false, "B##8", 6, 1},
		{-7, false, "C##0", 0, 3},
		{-7, true, "Ab4", 0, 0},
		{-7, true, "F##4", 5, 3},
		{-7, false, "Cbb0", 0, -1},
		{-6, false, "F4", 6, 0},
	}
	for _, c := range cases {
		degree, more := impl.DegreeOf(c.fifths, c.minor, readPitch(t, c.pitch))
		if degree != c.degree || more != c.more {
			t.Fatal(c, degree, more)
		}
	}
}

func TestP27InvalidArguments(t *testing.T) {
	check := func(fifths int, p impl.Pitch) {
		for _, minor := range modes {
			if degree, more := impl.DegreeOf(fifths, minor, p); degree != -1 || more != 0 {
				t.Fatal(fifths, minor, p, degree, more)
			}
		}
	}
	for _, fifths := range badKeys() {
		for _, p := range allPitches() {
			check(fifths, p)
		}
	}
	for _, fifths := range append(validKeys(), 8, -8, math.MaxInt, math.MinInt) {
		for _, p := range badPitches() {
			check(fifths, p)
		}
	}
}

func TestP117OctavesChangeNothingButTheOctave(t *testing.T) {
	for _, p := range allPitches() {
		higher := p
		higher.Octave++
		if p.Octave == 8 {
			continue
		}
		for _, minor := range modes {
			key, isTonic := impl.KeyOf(p, minor)
			if other, ok := impl.KeyOf(higher, minor); ok != isTonic || other != key {
				t.Fatal(p, minor, key, other)
			}
			for _, fifths := range validKeys() {
				degree, more := impl.DegreeOf(fifths, minor, p)
				if other, most := impl.DegreeOf(fifths, minor, higher); other != degree || most != more || degree < 0 {
					t.Fatal(fifths, minor, p, degree, more, other, most)
				}
				if impl.InKey(fifths, p) != impl.InKey(fifths, higher) {
					t.Fatal(fifths, p)
				}
			}
		}
	}
}

func TestP117OctavesHaveALimit(t *testing.T) {
	for _, fifths := range validKeys() {
		for step := 0; step <= 6; step++ {
			last := impl.Pitch{Step: step, Alter: orderedAlter(fifths, step), Octave: 8}
			beyond := impl.Pitch{Step: step, Alter: last.Alter, Octave: 9}
			if !impl.InKey(fifths, last) || impl.InKey(fifths, beyond) {
				t.Fatal(fifths, last)
			}
			for _, minor := range modes {
				if degree, more := impl.DegreeOf(fifths, minor, last); degree < 0 || more != 0 {
					t.Fatal(fifths, minor, last, degree, more)
				}
				if degree, more := impl.DegreeOf(fifths, minor, beyond); degree != -1 || more != 0 {
					t.Fatal(fifths, minor, beyond, degree, more)
				}
			}
		}
	}
}

func TestP118NeighbouringKeysDifferByOneTone(t *testing.T) {
	for fifths := -7; fifths < 7; fifths++ {
		// The degree 3 of the lower major key becomes the degree 6 of the higher one, a half tone below its tonic.
		fourth := impl.KeyScale(fifths, false)[3]
		for step := 0; step <= 6; step++ {
			want := 0
			if step == fourth.Step {
				want = 1
			}
			if raised := impl.KeyAlter(fifths+1, step) - impl.KeyAlter(fifths, step); raised != want {
				t.Fatal(fifths, step, raised)
			}
		}
		for _, p := range allPitches() {
			if p.Step != fourth.Step && impl.InKey(fifths, p) != impl.InKey(fifths+1, p) {
				t.Fatal(fifths, p)
			}
			if p.Step == fourth.Step && impl.InKey(fifths, p) && impl.InKey(fifths+1, p) {
				t.Fatal(fifths, p)
			}
		}
	}
}

func TestP118NeighbouringTonicsAreAFifthApart(t *testing.T) {
	for fifths := -7; fifths < 7; fifths++ {
		for _, minor := range modes {
			lower, _ := impl.KeyTonic(fifths, minor)
			higher, ok := impl.AddInterval(lower, impl.Interval{Steps: 4, Halves: 7})
			tonic, _ := impl.KeyTonic(fifths+1, minor)
			if !ok || !sameTone(higher, tonic) {
				t.Fatal(fifths, minor, lower, higher, tonic)
			}
			if key, ok := impl.KeyOf(higher, minor); !ok || key != fifths+1 {
				t.Fatal(fifths, minor, higher, key, ok)
			}
		}
	}
}

func TestP118TheLastKeysHaveOneNeighbour(t *testing.T) {
	for _, minor := range modes {
		for fifths, way := range map[int]impl.Interval{7: {Steps: 4, Halves: 7}, -7: {Steps: -4, Halves: -7}} {
			tonic, _ := impl.KeyTonic(fifths, minor)
			beyond, ok := impl.AddInterval(tonic, way)
			if !ok {
				t.Fatal(fifths, minor, tonic)
			}
			if key, ok := impl.KeyOf(beyond, minor); ok || key != 0 {
				t.Fatal(fifths, minor, beyond, key, ok)
			}
		}
	}
}
