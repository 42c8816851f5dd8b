package tests

import (
	"math"
	"slices"
	"strconv"
	"strings"
	"testing"

	"loop.example/musicengine/impl"
)

// stepNames, alterSigns and stepKeys are the chapter's own lists, written out again so that the tests do not depend on the program's tables.
var (
	stepNames  = []string{"C", "D", "E", "F", "G", "A", "B"}
	alterSigns = map[int]string{-2: "bb", -1: "b", 0: "", 1: "#", 2: "##"}
	stepKeys   = []int{0, 2, 4, 5, 7, 9, 11}
)

// farNumbers are numbers far outside of every limit; some of them come back within it if a product wraps around.
var farNumbers = []int{math.MinInt, math.MinInt + 1, math.MinInt32, -1 << 62, -1000, 1000, 1 << 32, 1 << 62, math.MaxInt32, math.MaxInt - 1, math.MaxInt}

func allPitches() []impl.Pitch {
	var list []impl.Pitch
	for octave := 0; octave <= 8; octave++ {
		for step := 0; step <= 6; step++ {
			for alter := -2; alter <= 2; alter++ {
				list = append(list, impl.Pitch{Step: step, Alter: alter, Octave: octave})
			}
		}
	}
	return list
}

// badPitches are invalid: each has at least one field outside of its limits.
func badPitches() []impl.Pitch {
	var list []impl.Pitch
	for step := -8; step <= 15; step++ {
		for alter := -6; alter <= 6; alter++ {
			for octave := -3; octave <= 12; octave++ {
				if step < 0 || step > 6 || alter < -2 || alter > 2 || octave < 0 || octave > 8 {
					list = append(list, impl.Pitch{Step: step, Alter: alter, Octave: octave})
				}
			}
		}
	}
	for _, far := range farNumbers {
		for _, p := range []impl.Pitch{{}, {Step: 6, Alter: 2, Octave: 8}, {Step: 3, Alter: -2, Octave: 4}} {
			list = append(list,
				impl.Pitch{Step: far, Alter: p.Alter, Octave: p.Octave},
				impl.Pitch{Step: p.Step, Alter: far, Octave: p.Octave},
				impl.Pitch{Step: p.Step, Alter: p.Alter, Octave: far},
				impl.Pitch{Step: far, Alter: far, Octave: far})
		}
	}
	return list
}

func expectedText(p impl.Pitch) string {
	return stepNames[p.Step] + alterSigns[p.Alter] + strconv.Itoa(p.Octave)
}

func TestP12OctavesHaveALimit(t *testing.T) {
	if impl.MaxOctave != 8 {
		t.Fatal(impl.MaxOctave)
	}
}

func TestP12PitchesHaveLimits(t *testing.T) {
	for _, p := range allPitches() {
		if !impl.PitchValid(p) {
			t.Fatal(p)
		}
	}
	for _, p := range badPitches() {
		if impl.PitchValid(p) {
			t.Fatal(p)
		}
	}
	for _, p := range []impl.Pitch{{Step: 7}, {Step: -1}, {Alter: 3}, {Alter: -3}, {Octave: 9}, {Octave: -1}} {
		if impl.PitchValid(p) {
			t.Fatal(p)
		}
	}
}

func TestP13PlacesCountSteps(t *testing.T) {
	for _, p := range allPitches() {
		place := impl.PitchPlace(p)
		if place%7 != p.Step || place/7 != p.Octave || place != 7*p.Octave+p.Step {
			t.Fatal(p, place)
		}
		plain := impl.Pitch{Step: p.Step, Octave: p.Octave}
		if impl.PitchPlace(plain) != place {
			t.Fatal(p, place, impl.PitchPlace(plain))
		}
	}
	first, last := impl.Pitch{Alter: -2}, impl.Pitch{Step: 6, Alter: 2, Octave: 8}
	if impl.PitchPlace(first) != 0 || impl.PitchPlace(last) != 62 {
		t.Fatal(impl.PitchPlace(first), impl.PitchPlace(last))
	}
	for _, p := range badPitches() {
		if impl.PitchPlace(p) != -1 {
			t.Fatal(p, impl.PitchPlace(p))
		}
	}
}

func TestP14KeysCountHalfTones(t *testing.T) {
	for _, p := range allPitches() {
		key := impl.PitchKey(p)
		if key != 12*p.Octave+stepKeys[p.Step]+p.Alter {
			t.Fatal(p, key)
		}
		higher := impl.Pitch{Step: p.Step, Alter: p.Alter, Octave: p.Octave + 1}
		if p.Octave < 8 && impl.PitchKey(higher) != key+12 {
			t.Fatal(p, key, impl.PitchKey(higher))
		}
		raised := impl.Pitch{Step: p.Step, Alter: p.Alter + 1, Octave: p.Octave}
		if p.Alter < 2 && impl.PitchKey(raised) != key+1 {
			t.Fatal(p, key, impl.PitchKey(raised))
		}
	}
	for _, p := range badPitches() {
		if impl.PitchKey(p) != -100 {
			t.Fatal(p, impl.PitchKey(p))
		}
	}
}

func TestP14KeysOfNamedPitches(t *testing.T) {
	keys := map[impl.Pitch]int{
		{}:                                0,
		{Alter: -1}:                       -1, // below the first key
		{Alter: -2}:                       -2,
		{Step: 1, Alter: -2}:              0,
		{Step: 6, Alter: 1}:               12, // above the next octave's first key
		{Alter: -2, Octave: 1}:            10,
		{Step: 5, Octave: 4}:              57,
		{Step: 6, Octave: 8}:              107,
		{Step: 6, Alter: 1, Octave: 8}:    108, // above the last key
		{Step: 6, Alter: 2, Octave: 8}:    109,
		{Step: 3, Alter: -1, Octave: 8}:   100,
		{Step: 2, Alter: 1, Octave: 8}:    101,
		{Step: 7, Alter: 0, Octave: 0}:    -100,
		{Step: 0, Alter: 3, Octave: 0}:    -100,
		{Step: 0, Alter: -3, Octave: 0}:   -100,
		{Step: 0, Alter: 0, Octave: 9}:    -100,
		{Step: 0, Alter: 0, Octave: -1}:   -100,
		{Step: -1, Alter: -3, Octave: -1}: -100,
	}
	for p, key := range keys {
		if impl.PitchKey(p) != key {
			t.Fatal(p, impl.PitchKey(p), key)
		}
	}
}

func TestP15TextsOfPitchesCanBeRead(t *testing.T) {
	for _, p := range allPitches() {
		text := impl.PitchText(p)
		if text != expectedText(p) || len(text) < 2 || len(text) > 4 {
			t.Fatal(p, text)
		}
		if read, ok := impl.ReadPitch(text); !ok || read != p {
			t.Fatal(p, text, read, ok)
		}
	}
	for _, p := range badPitches() {
		if impl.PitchText(p) != "" {
			t.Fatal(p, impl.PitchText(p))
		}
	}
	texts := map[string]impl.Pitch{
		"C0":   {},
		"Cbb0": {Alter: -2},
		"B##8": {Step: 6, Alter: 2, Octave: 8},
		"Bb8":  {Step: 6, Alter: -1, Octave: 8},
		"F#4":  {Step: 3, Alter: 1, Octave: 4},
		"A4":   {Step: 5, Octave: 4},
	}
	for text, p := range texts {
		if read, ok := impl.ReadPitch(text); !ok || read != p || impl.PitchText(p) != text {
			t.Fatal(text, read, ok, impl.PitchText(p))
		}
	}
}

// checkRead fails unless a text is read exactly if it is the text of a pitch, and then as that pitch.
func checkRead(t *testing.T, texts map[string]impl.Pitch, s string) {
	t.Helper()
	want, ok := texts[s]
	if p, read := impl.ReadPitch(s); read != ok || p != want {
		t.Fatalf("%q: %v %v", s, p, read)
	}
	if ok && impl.PitchText(want) != s {
		t.Fatalf("%q: %q", s, impl.PitchText(want))
	}
}

func TestP16AcceptedTextsAreCanonical(t *testing.T) {
	texts := map[string]impl.Pitch{}
	for _, p := range allPitches() {
		texts[expectedText(p)] = p
	}
	for text := range texts {
		for at := 0; at <= len(text); at++ {
			for b := 0; b < 256; b++ {
				checkRead(t, texts, text[:at]+string([]byte{byte(b)})+text[at:])
				if at < len(text) {
					checkRead(t, texts, text[:at]+string([]byte{byte(b)})+text[at+1:])
				}
			}
			if at < len(text) {
				checkRead(t, texts, text[:at]+text[at+1:])
			}
		}
	}
	for _, p := range allPitches() {
		for b := 0; b < 256; b++ {
			extra := string([]byte{byte(b)})
			for _, s := range []string{impl.PitchText(p) + extra, impl.PitchText(p) + strings.Repeat(extra, 4)} {
				if read, ok := impl.ReadPitch(s); ok || read != (impl.Pitch{}) {
					t.Fatalf("%q: %v", s, read)
				}
			}
		}
	}
}

func TestP16ShortTexts(t *testing.T) {
	texts := map[string]impl.Pitch{}
	for _, p := range allPitches() {
		texts[expectedText(p)] = p
	}
	letters := "CDEFGABHcab#0189-+ \x00\xff"
	accepted := 0
	var try func(s string)
	try = func(s string) {
		checkRead(t, texts, s)
		if _, ok := impl.ReadPitch(s); ok {
			accepted++
		}
		if len(s) < 4 {
			for i := 0; i < len(letters); i++ {
				try(s + letters[i:i+1])
			}
		}
	}
	try("")
	if want := 7 * 5 * 3; accepted != want { // the digits 0, 1 and 8 are octaves
		t.Fatal(accepted, want)
	}
}

func TestP16TextsOfNoPitch(t *testing.T) {
	bad := []string{"", "C", "4", "#", "b", "Cb", "C#", "H4", "c4", "C9", "C-1", "C10", "C04", " C4", "C4 ", "C 4", "C4\n", "C4\x00",
		"4C", "#C4", "C4#", "C#b4", "Cb#4", "C###4", "Cbbb4", "Cx4", "CB4", "C♯4", "C♭4", "C4C4", "bb4", "C\u0664", "Ć4", "r", "r/4",
		strings.Repeat("C", 1000), "C" + strings.Repeat("#", 1000) + "4"}
	for _, s := range bad {
		if p, ok := impl.ReadPitch(s); ok || p != (impl.Pitch{}) {
			t.Fatalf("%q: %v", s, p)
		}
	}
}

func TestP17SpelledKeysHaveTheKey(t *testing.T) {
	for key := 0; key <= 107; key++ {
		sharp, ok := impl.SpellKey(key, false)
		if !ok || !impl.PitchValid(sharp) || impl.PitchKey(sharp) != key || sharp.Alter < 0 || sharp.Alter > 1 {
			t.Fatal(key, sharp, ok)
		}
		flat, ok := impl.SpellKey(key, true)
		if !ok || !impl.PitchValid(flat) || impl.PitchKey(flat) != key || flat.Alter < -1 || flat.Alter > 0 {
			t.Fatal(key, flat, ok)
		}
		plain := slices.Contains(stepKeys, key%12)
		if plain != (sharp == flat) || plain != (sharp.Alter == 0) || plain != (flat.Alter == 0) {
			t.Fatal(key, sharp, flat)
		}
	}
}

func TestP17SpelledKeysByName(t *testing.T) {
	sharps := []string{"C", "C#", "D", "D#", "E", "F", "F#", "G", "G#", "A", "A#", "B"}
	flats := []string{"C", "Db", "D", "Eb", "E", "F", "Gb", "G", "Ab", "A", "Bb", "B"}
	for key := 0; key <= 107; key++ {
		octave := strconv.Itoa(key / 12)
		if p, ok := impl.SpellKey(key, false); !ok || impl.PitchText(p) != sharps[key%12]+octave {
			t.Fatal(key, p, ok)
		}
		if p, ok := impl.SpellKey(key, true); !ok || impl.PitchText(p) != flats[key%12]+octave {
			t.Fatal(key, p, ok)
		}
	}
}

func TestP17KeysThatAreNotSpelled(t *testing.T) {
	bad := slices.Clone(farNumbers)
	for distance := 1; distance <= 150; distance++ {
		bad = append(bad, -distance, 107+distance)
	}
	for _, key := range bad {
		for _, flats := range []bool{false, true} {
			if p, ok := impl.SpellKey(key, flats); ok || p != (impl.Pitch{}) {
				t.Fatal(key, flats, p, ok)
			}
		}
	}
}
