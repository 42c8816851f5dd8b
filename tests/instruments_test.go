package tests

import (
	"math"
	"slices"
	"testing"

	"loop.example/musicengine/impl"
)

// mover is WriteFor or SoundOf.
type mover func(i impl.Instrument, v []impl.Note) ([]impl.Note, bool)

// keyOf is the key of a valid pitch, counted without the program.
func keyOf(p impl.Pitch) int {
	return 12*p.Octave + stepKeys[p.Step] + p.Alter
}

// fewIntervals are valid: a unison, octaves, ways up and down, those with the most steps, and those whose half tones lead the other way than their steps.
func fewIntervals() []impl.Interval {
	up := []impl.Interval{
		{}, {Halves: 1}, {Halves: 3}, {Steps: 1, Halves: 2}, {Steps: 1, Halves: -1}, {Steps: 2, Halves: 3}, {Steps: 4, Halves: 7},
		octave, {Steps: 8, Halves: 14}, {Steps: 14, Halves: 24}, {Steps: 21, Halves: 33}, {Steps: 21, Halves: 36}, {Steps: 21, Halves: 39},
	}
	list := slices.Clone(up)
	for _, v := range up[1:] {
		list = append(list, negative(v))
	}
	return list
}

// fewRanges are valid, as pairs of Low and High.
func fewRanges() [][2]int {
	return [][2]int{{0, 107}, {0, 0}, {107, 107}, {0, 106}, {1, 107}, {0, 1}, {48, 48}, {47, 49}, {50, 80}, {60, 61}, {106, 107}}
}

// badRanges are invalid: with Low greater than High, or one of them outside of 0..107.
func badRanges() [][2]int {
	list := [][2]int{{1, 0}, {107, 0}, {107, 106}, {49, 48}, {60, 48}, {108, 108}, {-1, -1}, {-1, 108}, {108, -1}, {108, 107}, {0, -1}}
	odd := append([]int{-1, -2, -12, -48, 108, 109, 120, 1<<8 + 50, 1<<16 + 50, 1<<32 + 50, -1<<32 + 50, 1<<62 + 50}, farNumbers...)
	for _, a := range odd {
		for _, b := range []int{0, 1, 48, 106, 107} {
			list = append(list, [2]int{a, b}, [2]int{b, a})
		}
		for _, b := range odd {
			list = append(list, [2]int{a, b})
		}
	}
	return list
}

// goodInstruments are valid: every valid interval with a few ranges.
func goodInstruments() []impl.Instrument {
	var list []impl.Instrument
	for by := range validIntervals() {
		for _, r := range fewRanges() {
			list = append(list, impl.Instrument{Written: by, Low: r[0], High: r[1]})
		}
	}
	return list
}

// badInstruments are invalid: by their range, by their interval, or by both.
func badInstruments() []impl.Instrument {
	var list []impl.Instrument
	for _, r := range badRanges() {
		for _, by := range fewIntervals() {
			list = append(list, impl.Instrument{Written: by, Low: r[0], High: r[1]})
		}
		list = append(list, impl.Instrument{Written: impl.Interval{Steps: 22, Halves: 38}, Low: r[0], High: r[1]})
	}
	for _, by := range badIntervals() {
		list = append(list, impl.Instrument{Written: by, High: 107}, impl.Instrument{Written: by, Low: 48, High: 48})
	}
	return list
}

// lentInstruments are some with which voices of others are read: valid ones, with and without a way to move, and an invalid one.
func lentInstruments() []impl.Instrument {
	return []impl.Instrument{
		{Low: 48, High: 48},
		{Written: impl.Interval{Steps: 1, Halves: 2}, Low: 0, High: 107},
		{Written: impl.Interval{Steps: -2, Halves: -3}, Low: 50, High: 80},
		{Low: 1, High: 0},
	}
}

// playable are valid voices with which instruments are tried: at the limits, with rests alone, with ties, and with pitches at both ends.
func playable(t *testing.T) [][]impl.Note {
	list := [][]impl.Note{nil, {}, tiedRun(1, 1), tiedRun(60, 12), slices.Repeat(tiedRun(1, 768), 60), slices.Repeat(notesOf(t, "r/768"), 60)}
	for _, text := range []string{
		"r/24", "r/1 r/768", "C4/48", "C0/1", "B8/768", "Cbb0/1", "B##8/1", "C0/1 B8/1", "B8/1 r/1 C0/1",
		"C4/48~ C4/48 r/24 G4/48", "r/12 Bb3/768~ Bb3/768~ Bb3/1 F#5/24", "C##4/1 Cbb4/1", "E#4/1 Fb4/1 r/3", "A2/24 C5/24 r/24 E7/24",
	} {
		list = append(list, notesOf(t, text))
	}
	return append(list, randomVoices()[:24]...)
}

// loneVoices are short voices with which invalid instruments are tried; the last one is invalid, too.
func loneVoices(t *testing.T) [][]impl.Note {
	return [][]impl.Note{nil, {}, notesOf(t, "r/24"), notesOf(t, "C4/48"), notesOf(t, "C4/48~ C4/48 r/1 C6/48"), notesOf(t, "Cbb0/1"), notesOf(t, "C0/1 B##8/1"), notesOf(t, "C0/48~")}
}

// checkMoved fails unless one of both functions moves a valid voice by an interval, exactly if that is possible, and the other one moves it back. It returns whether it is possible.
func checkMoved(t *testing.T, i impl.Instrument, v []impl.Note, by impl.Interval, there mover, back mover) bool {
	t.Helper()
	moved, ok := there(i, v)
	want, wantOk := movedOf(v, by)
	if ok != wantOk || !slices.Equal(moved, want) {
		t.Fatal(i, v, moved, ok)
	}
	if !ok {
		return false
	}
	if again, ok := back(i, moved); !ok || !slices.Equal(again, v) {
		t.Fatal(i, v, moved, again, ok)
	}
	return true
}

func checkWritten(t *testing.T, i impl.Instrument, v []impl.Note) bool {
	t.Helper()
	return checkMoved(t, i, v, i.Written, impl.WriteFor, impl.SoundOf)
}

func checkSounding(t *testing.T, i impl.Instrument, v []impl.Note) bool {
	t.Helper()
	return checkMoved(t, i, v, negative(i.Written), impl.SoundOf, impl.WriteFor)
}

// checkNotMoved fails if a voice is moved.
func checkNotMoved(t *testing.T, i impl.Instrument, v []impl.Note, move mover) {
	t.Helper()
	if moved, ok := move(i, v); ok || len(moved) != 0 {
		t.Fatal(i, v, moved, ok)
	}
}

// checkOthersNotMoved fails if a voice is moved for an invalid instrument, or an invalid voice is moved.
func checkOthersNotMoved(t *testing.T, move mover) {
	t.Helper()
	voices := loneVoices(t)
	for _, i := range badInstruments() {
		for _, v := range voices {
			checkNotMoved(t, i, v, move)
		}
	}
	for _, v := range badVoices(t) {
		for _, by := range append(fewIntervals(), impl.Interval{Steps: 22, Halves: 38}) {
			checkNotMoved(t, impl.Instrument{Written: by, Low: 0, High: 107}, v, move)
		}
		checkNotMoved(t, impl.Instrument{Low: 1, High: 0}, v, move)
	}
}

// faultOf is the number of the first note outside of a range, counted without the program.
func faultOf(low int, high int, v []impl.Note) int {
	return slices.IndexFunc(v, func(n impl.Note) bool {
		return !n.Rest && (keyOf(n.Tone) < low || keyOf(n.Tone) > high)
	})
}

// checkFault fails unless the first note outside of the range is found.
func checkFault(t *testing.T, i impl.Instrument, v []impl.Note) int {
	t.Helper()
	fault := impl.RangeFault(i, v)
	if fault != faultOf(i.Low, i.High, v) {
		t.Fatal(i, v, fault)
	}
	return fault
}

func TestP53InstrumentsHaveARange(t *testing.T) {
	for _, by := range fewIntervals() {
		for low := -3; low <= 111; low++ {
			for high := -3; high <= 111; high++ {
				i := impl.Instrument{Written: by, Low: low, High: high}
				if impl.InstrumentValid(i) != (low >= 0 && high <= 107 && low <= high) {
					t.Fatal(i)
				}
			}
		}
	}
}

func TestP53LowIsNotGreaterThanHigh(t *testing.T) {
	for low := 0; low <= 107; low++ {
		for high := low; high <= 107; high++ {
			i := impl.Instrument{Written: impl.Interval{Steps: 1, Halves: 2}, Low: low, High: high}
			if !impl.InstrumentValid(i) {
				t.Fatal(i)
			}
			i.Low, i.High = high, low
			if impl.InstrumentValid(i) != (low == high) {
				t.Fatal(i)
			}
		}
	}
}

func TestP53AllValidIntervals(t *testing.T) {
	list := goodInstruments()
	if want := 301 * len(fewRanges()); len(list) != want {
		t.Fatal(len(list), want)
	}
	for _, i := range list {
		if !impl.InstrumentValid(i) {
			t.Fatal(i)
		}
	}
}

func TestP53OtherInstrumentsAreInvalid(t *testing.T) {
	for _, i := range badInstruments() {
		if impl.InstrumentValid(i) {
			t.Fatal(i)
		}
	}
}

func TestP53RangesFarAway(t *testing.T) {
	for distance := range 1000 {
		for _, far := range []int{-1 - distance, 108 + distance, math.MinInt + distance, math.MaxInt - distance} {
			for _, r := range [][2]int{{far, 60}, {60, far}, {far, 0}, {107, far}, {0, far}, {far, 107}, {far, far}} {
				if i := (impl.Instrument{Low: r[0], High: r[1]}); impl.InstrumentValid(i) {
					t.Fatal(i)
				}
			}
		}
	}
}

func TestP53InstrumentsByNumber(t *testing.T) {
	second := impl.Interval{Steps: 1, Halves: 2}
	cases := map[impl.Instrument]bool{
		{}:                                                true, // a unison, and one key
		{High: 107}:                                       true,
		{High: 108}:                                       false,
		{Low: 107, High: 107}:                             true,
		{Low: 108, High: 108}:                             false,
		{Low: -1}:                                         false,
		{Low: -1, High: -1}:                               false,
		{Low: 5, High: 4}:                                 false,
		{Low: 4, High: 4}:                                 true,
		{Low: 4, High: 5}:                                 true,
		{Low: math.MinInt, High: math.MaxInt}:             false,
		{Low: math.MaxInt, High: math.MinInt}:             false,
		{Low: 0, High: math.MaxInt}:                       false,
		{Low: math.MinInt, High: 107}:                     false,
		{Written: second, Low: 38, High: 82}:              true,
		{Written: second, Low: 82, High: 38}:              false,
		{Written: octave, Low: 0, High: 107}:              true,
		{Written: negative(octave), High: 60}:             true,
		{Written: impl.Interval{Halves: 4}}:               false,
		{Written: impl.Interval{Halves: -3}}:              true,
		{Written: impl.Interval{Halves: -4}}:              false,
		{Written: impl.Interval{Steps: 1}}:                true,
		{Written: impl.Interval{Steps: 1000}}:             false,
		{Written: impl.Interval{Steps: 21}}:               false,
		{Written: impl.Interval{Steps: 21, Halves: 39}}:   true,
		{Written: impl.Interval{Steps: 21, Halves: 40}}:   false,
		{Written: impl.Interval{Steps: -21, Halves: -39}}: true,
		{Written: impl.Interval{Steps: -21, Halves: -40}}: false,
		{Written: impl.Interval{Steps: 22, Halves: 38}}:   false,
		{Written: impl.Interval{Steps: -22, Halves: -38}}: false,
	}
	for i, want := range cases {
		if impl.InstrumentValid(i) != want {
			t.Fatal(i, want)
		}
	}
}

func TestP54WhatIsWrittenSounds(t *testing.T) {
	possible, impossible := 0, 0
	for _, v := range playable(t) {
		for by := range validIntervals() {
			if checkWritten(t, impl.Instrument{Written: by, Low: 50, High: 80}, v) {
				possible++
			} else {
				impossible++
			}
		}
	}
	if possible < 1000 || impossible < 1000 {
		t.Fatal(possible, impossible)
	}
}

func TestP54AllVoicesAreWritten(t *testing.T) {
	for _, v := range goodVoices(t) {
		for _, by := range fewIntervals() {
			checkWritten(t, impl.Instrument{Written: by, Low: 0, High: 107}, v)
		}
	}
}

func TestP54EveryPitchIsWritten(t *testing.T) {
	for _, p := range allPitches() {
		v := []impl.Note{{Rest: true, Ticks: 3}, {Tone: p, Ticks: 5, Tied: true}, {Tone: p, Ticks: 7}}
		for by := range validIntervals() {
			tone, possible := impl.AddInterval(p, by)
			i := impl.Instrument{Written: by, Low: 48, High: 48}
			if checkWritten(t, i, v) != possible {
				t.Fatal(i, v)
			}
			if written, ok := impl.WriteFor(i, v); ok && (written[0] != v[0] || written[1].Tone != tone || written[2].Tone != tone) {
				t.Fatal(i, v, written)
			}
		}
	}
}

func TestP54TheRangeDoesNotMatterForWriting(t *testing.T) {
	for _, v := range playable(t) {
		for _, by := range fewIntervals() {
			for _, r := range fewRanges() {
				checkWritten(t, impl.Instrument{Written: by, Low: r[0], High: r[1]}, v)
			}
		}
	}
}

// transposed are voices as they sound and as they are written; one of both is empty where the other one cannot be moved.
var transposed = []struct {
	steps, halves int
	sounds        string
	written       string
}{
	{0, 0, "C4/48 r/12 E4/24", "C4/48 r/12 E4/24"}, // a unison
	{0, 0, "Cbb0/1 B##8/768", "Cbb0/1 B##8/768"},
	{1, 2, "C4/48 r/12 E4/24", "D4/48 r/12 F#4/24"},
	{1, 2, "Bb3/48~ Bb3/24 r/24", "C4/48~ C4/24 r/24"},
	{-1, -2, "D4/1", "C4/1"},
	{5, 9, "Eb4/48 G4/48", "C5/48 E5/48"}, // for an instrument in Eb
	{-3, -5, "C4/1 F4/1", "G3/1 C4/1"},
	{7, 12, "C2/24 r/1 G2/24~ G2/24", "C3/24 r/1 G3/24~ G3/24"}, // an octave
	{-7, -12, "C6/24 r/1", "C5/24 r/1"},
	{0, 1, "B3/1 Cb4/1", "B#3/1 C4/1"},
	{0, -1, "B#3/1 C4/1", "B3/1 Cb4/1"},
	{1, -1, "E#4/1", "Fb4/1"}, // a step up, and a half tone down
	{-1, 1, "Fb4/1", "E#4/1"},
	{21, 36, "C4/768~ C4/1", "C7/768~ C7/1"},
	{-21, -36, "C7/768", "C4/768"},
	{21, 39, "Cb4/1", "C##7/1"},
	{-21, -39, "C##7/1", "Cb4/1"},
	{21, 36, "r/24 r/768", "r/24 r/768"}, // rests stay, however far
	{-21, -39, "r/1", "r/1"},
	{1, 2, "A8/1", "B8/1"},
	{1, 2, "B8/1", ""}, // beyond the last octave
	{1, 2, "C4/1 C4/1 B8/1", ""},
	{1, 2, "B8/1 r/1 C0/1", ""},
	{1, 2, "", "C0/1"}, // beyond the first one
	{1, 2, "", "B8/1 r/1 C0/1"},
	{1, 2, "", "C4/1~ C4/1 C0/1"},
	{-7, -12, "B0/1", ""},
	{-7, -12, "", "C8/1"},
	{0, 1, "C##4/1", ""}, // too many alterations
	{0, 1, "C4/1 r/1 C##4/1 C4/1", ""},
	{0, 1, "", "Cbb4/1"},
	{0, -1, "Cbb4/1", ""},
	{0, -1, "", "C##4/1"},
	{21, 36, "C6/1", ""},
	{-21, -36, "", "C6/1"},
}

func TestP54WrittenByText(t *testing.T) {
	for _, c := range transposed {
		i := impl.Instrument{Written: impl.Interval{Steps: c.steps, Halves: c.halves}, Low: 50, High: 80}
		if c.sounds == "" {
			continue
		}
		written, ok := impl.WriteFor(i, notesOf(t, c.sounds))
		if ok != (c.written != "") || !slices.Equal(written, notesOf(t, c.written)) {
			t.Fatal(c, written, ok)
		}
	}
}

func TestP54VoicesWithoutPitchesAreWrittenAsTheyAre(t *testing.T) {
	for _, i := range goodInstruments() {
		for _, v := range [][]impl.Note{nil, {}, {{Rest: true, Ticks: 768}}, slices.Repeat([]impl.Note{{Rest: true, Ticks: 1}}, 60)} {
			if !checkWritten(t, i, v) || !checkSounding(t, i, v) {
				t.Fatal(i, v)
			}
		}
	}
}

func TestP54WrittenInPartIsNotWritten(t *testing.T) {
	high := impl.Note{Tone: impl.Pitch{Step: 6, Octave: 8}, Ticks: 1}
	up := impl.Instrument{Written: impl.Interval{Steps: 1, Halves: 2}, Low: 0, High: 107}
	down := impl.Instrument{Written: impl.Interval{Steps: -1, Halves: -2}, Low: 0, High: 107}
	for count := 1; count <= 60; count++ {
		for at := range count {
			v := slices.Repeat(tiedRun(1, 24), count)
			v[at] = high
			checkNotMoved(t, up, v, impl.WriteFor)
			checkNotMoved(t, down, v, impl.SoundOf)
			if !checkWritten(t, down, v) || !checkSounding(t, up, v) {
				t.Fatal(count, at)
			}
		}
	}
}

func TestP54NothingIsWrittenForOtherArguments(t *testing.T) {
	checkOthersNotMoved(t, impl.WriteFor)
}

func TestP54WrittenVoicesAreNewMemory(t *testing.T) {
	for _, i := range lentInstruments() {
		for _, v := range lentVoices(t) {
			checkNew(t, v, func(v []impl.Note) []impl.Note {
				written, _ := impl.WriteFor(i, v)
				return written
			})
		}
	}
}

func TestP55WhatSoundsIsWritten(t *testing.T) {
	possible, impossible := 0, 0
	for _, v := range playable(t) {
		for by := range validIntervals() {
			if checkSounding(t, impl.Instrument{Written: by, Low: 50, High: 80}, v) {
				possible++
			} else {
				impossible++
			}
		}
	}
	if possible < 1000 || impossible < 1000 {
		t.Fatal(possible, impossible)
	}
}

func TestP55AllVoicesSound(t *testing.T) {
	for _, v := range goodVoices(t) {
		for _, by := range fewIntervals() {
			checkSounding(t, impl.Instrument{Written: by, Low: 0, High: 107}, v)
		}
	}
}

func TestP55EveryPitchSounds(t *testing.T) {
	for _, p := range allPitches() {
		v := []impl.Note{{Tone: p, Ticks: 5, Tied: true}, {Tone: p, Ticks: 7}, {Rest: true, Ticks: 3}}
		for by := range validIntervals() {
			tone, possible := impl.AddInterval(p, negative(by))
			i := impl.Instrument{Written: by, Low: 48, High: 48}
			if checkSounding(t, i, v) != possible {
				t.Fatal(i, v)
			}
			if sounds, ok := impl.SoundOf(i, v); ok && (sounds[0].Tone != tone || sounds[1].Tone != tone || sounds[2] != v[2]) {
				t.Fatal(i, v, sounds)
			}
		}
	}
}

func TestP55TheRangeDoesNotMatterForSounding(t *testing.T) {
	for _, v := range playable(t) {
		for _, by := range fewIntervals() {
			for _, r := range fewRanges() {
				checkSounding(t, impl.Instrument{Written: by, Low: r[0], High: r[1]}, v)
			}
		}
	}
}

func TestP55SoundingByText(t *testing.T) {
	for _, c := range transposed {
		i := impl.Instrument{Written: impl.Interval{Steps: c.steps, Halves: c.halves}, Low: 50, High: 80}
		if c.written == "" {
			continue
		}
		sounds, ok := impl.SoundOf(i, notesOf(t, c.written))
		if ok != (c.sounds != "") || !slices.Equal(sounds, notesOf(t, c.sounds)) {
			t.Fatal(c, sounds, ok)
		}
	}
}

func TestP55VoicesThatMoveNeitherWay(t *testing.T) {
	v := notesOf(t, "C0/1 r/1 B8/1")
	for by := range validIntervals() {
		i := impl.Instrument{Written: by, High: 107}
		if by.Steps != 0 {
			checkNotMoved(t, i, v, impl.WriteFor)
			checkNotMoved(t, i, v, impl.SoundOf)
		}
	}
	for _, halves := range []int{-3, -2, -1, 1, 2, 3} {
		i := impl.Instrument{Written: impl.Interval{Halves: halves}, High: 107}
		w := notesOf(t, "Cbb4/1 C##4/1")
		checkNotMoved(t, i, w, impl.WriteFor)
		checkNotMoved(t, i, w, impl.SoundOf)
	}
}

func TestP55NothingSoundsForOtherArguments(t *testing.T) {
	checkOthersNotMoved(t, impl.SoundOf)
}

func TestP55SoundingVoicesAreNewMemory(t *testing.T) {
	for _, i := range lentInstruments() {
		for _, v := range lentVoices(t) {
			checkNew(t, v, func(v []impl.Note) []impl.Note {
				sounds, _ := impl.SoundOf(i, v)
				return sounds
			})
		}
	}
}

func TestP56EveryPitchInEveryRange(t *testing.T) {
	for _, p := range allPitches() {
		v := []impl.Note{{Tone: p, Ticks: 1}}
		for low := 0; low <= 107; low++ {
			for high := low; high <= 107; high++ {
				checkFault(t, impl.Instrument{Low: low, High: high}, v)
			}
		}
	}
}

func TestP56NotesAtTheEndsOfTheRange(t *testing.T) {
	for key := 0; key <= 107; key++ {
		for _, flats := range []bool{false, true} {
			p, ok := impl.SpellKey(key, flats)
			if !ok {
				t.Fatal(key)
			}
			v := []impl.Note{{Tone: p, Ticks: 24}}
			inside := [][2]int{{key, key}, {0, key}, {key, 107}, {0, 107}}
			var outside [][2]int
			if key > 0 {
				inside = append(inside, [2]int{key - 1, key})
				outside = append(outside, [2]int{key - 1, key - 1}, [2]int{0, key - 1})
			}
			if key < 107 {
				inside = append(inside, [2]int{key, key + 1})
				outside = append(outside, [2]int{key + 1, key + 1}, [2]int{key + 1, 107})
			}
			for _, r := range inside {
				if fault := impl.RangeFault(impl.Instrument{Low: r[0], High: r[1]}, v); fault != -1 {
					t.Fatal(v, r, fault)
				}
			}
			for _, r := range outside {
				if fault := impl.RangeFault(impl.Instrument{Low: r[0], High: r[1]}, v); fault != 0 {
					t.Fatal(v, r, fault)
				}
			}
		}
	}
}

func TestP56NotesOutsideAreFound(t *testing.T) {
	found, none := 0, 0
	for _, v := range slices.Concat(goodVoices(t), playable(t)) {
		for _, r := range fewRanges() {
			i := impl.Instrument{Written: impl.Interval{Steps: 1, Halves: 2}, Low: r[0], High: r[1]}
			fault := checkFault(t, i, v)
			if fault < 0 {
				none++
				continue
			}
			found++
			if key := impl.PitchKey(v[fault].Tone); v[fault].Rest || key >= i.Low && key <= i.High {
				t.Fatal(i, v, fault)
			}
			// A part of a voice is one itself only if no tie is cut.
			if (fault == 0 || !v[fault-1].Tied) && impl.RangeFault(i, v[:fault]) != -1 {
				t.Fatal(i, v, fault)
			}
		}
	}
	if found < 1000 || none < 1000 {
		t.Fatal(found, none)
	}
}

func TestP56TheFirstNoteOutsideIsFound(t *testing.T) {
	i := impl.Instrument{Low: 48, High: 60}
	for count := 1; count <= 60; count++ {
		for at := range count {
			for _, outside := range notesOf(t, "B3/1 Cb4/1 C#5/1 Dbb4/1 C0/1 B8/1") {
				v := slices.Repeat(notesOf(t, "C4/1 C5/1 r/1 B#4/1"), 15)[:count]
				v[at] = outside
				want := at
				if outside.Tone == (impl.Pitch{Step: 1, Alter: -2, Octave: 4}) {
					want = -1
				}
				if fault := impl.RangeFault(i, v); fault != want {
					t.Fatal(v, fault, want)
				}
				// Another one behind it changes nothing.
				v[count-1] = impl.Note{Tone: impl.Pitch{Octave: 8}, Ticks: 1}
				if want < 0 {
					want = count - 1
				}
				if fault := impl.RangeFault(i, v); fault != want {
					t.Fatal(v, fault, want)
				}
			}
		}
	}
}

func TestP56FaultsByText(t *testing.T) {
	cases := []struct {
		low, high int
		voice     string
		fault     int
	}{
		{0, 107, "", -1},
		{107, 107, "", -1},
		{50, 80, "D4/12", -1},
		{50, 80, "C4/12", 0},
		{50, 80, "r/12 D4/12 C4/12", 2},
		{50, 80, "G#6/12 A6/12", 1}, // 80 and 81
		{50, 80, "Bbb6/12 Ab6/12", 0},
		{50, 80, "D4/12 Ebb4/12 C##4/12 Db4/12", 3},
		{50, 80, "r/1 r/768", -1}, // rests have no key
		{107, 107, "r/24", -1},
		{1, 107, "r/24 r/1 D0/1 r/1", -1},
		{1, 107, "r/24 r/1 C0/1 r/1", 2}, // but C0 has one, although a rest has its pitch
		{1, 1, "r/1 C0/1", 1},
		{0, 0, "r/1 C0/1 Dbb0/1", -1},
		{0, 0, "C0/1 C#0/1", 1},
		{0, 107, "Cb0/1", 0}, // keys that no range holds
		{0, 107, "Cbb0/1", 0},
		{0, 107, "B8/1 B#8/1", 1},
		{0, 107, "B8/1 B##8/1", 1},
		{0, 107, "C0/1 B8/1 A##8/1 Dbb0/1", -1},
		{48, 48, "C4/48~ C4/24 r/24 B#3/1 Dbb4/1", -1},
		{48, 48, "C4/48~ C4/24 C#4/24", 2},
		{48, 48, "D4/48~ D4/24 C4/24", 0}, // the first one of tied notes
		{48, 48, "C4/1 D4/48~ D4/24~ D4/1", 1},
		{48, 60, "B3/1 C6/1", 0},
		{48, 60, "C6/1 B3/1", 0},
		{48, 60, "C4/1 C6/1 B3/1", 1},
		{48, 60, "C4/1 B3/1 C6/1", 1},
		{38, 82, "Bb3/48~ Bb3/24 r/24", -1},
	}
	for _, c := range cases {
		for _, by := range fewIntervals() {
			if fault := impl.RangeFault(impl.Instrument{Written: by, Low: c.low, High: c.high}, notesOf(t, c.voice)); fault != c.fault {
				t.Fatal(c, by, fault)
			}
		}
	}
}

func TestP56TheVoiceIsTakenAsItSounds(t *testing.T) {
	v := notesOf(t, "D4/12 r/12 E4/12 C4/12 A6/12")
	for by := range validIntervals() {
		i := impl.Instrument{Written: by, Low: 50, High: 80}
		if fault := impl.RangeFault(i, v); fault != 3 {
			t.Fatal(i, fault)
		}
		written, ok := impl.WriteFor(i, v)
		if !ok {
			continue
		}
		if sounds, ok := impl.SoundOf(i, written); !ok || impl.RangeFault(i, sounds) != 3 {
			t.Fatal(i, written, sounds, ok)
		}
	}
	for _, v := range playable(t) {
		for _, i := range goodInstruments() {
			checkFault(t, i, v)
		}
	}
}

func TestP56OtherInstrumentsHaveNoFault(t *testing.T) {
	voices := loneVoices(t)
	for _, i := range badInstruments() {
		for _, v := range voices {
			if fault := impl.RangeFault(i, v); fault != -1 {
				t.Fatal(i, v, fault)
			}
		}
	}
}

func TestP56OtherVoicesHaveNoFault(t *testing.T) {
	for _, v := range badVoices(t) {
		for _, r := range append(fewRanges(), [2]int{1, 0}, [2]int{0, 108}) {
			if fault := impl.RangeFault(impl.Instrument{Low: r[0], High: r[1]}, v); fault != -1 {
				t.Fatal(v, r, fault)
			}
		}
	}
	for count := 61; count <= 130; count++ {
		for _, n := range notesOf(t, "C0/1 B8/768 r/1") {
			v := slices.Repeat([]impl.Note{n}, count)
			if fault := impl.RangeFault(impl.Instrument{Low: 48, High: 48}, v); fault != -1 {
				t.Fatal(count, n, fault)
			}
		}
	}
}

func TestP56VoicesAreOnlyRead(t *testing.T) {
	for _, i := range lentInstruments() {
		for _, v := range lentVoices(t) {
			l := lend(v)
			want := -1
			if voiceIsValid(v) && i.Low <= i.High {
				want = faultOf(i.Low, i.High, v)
			}
			if fault := impl.RangeFault(i, l.voice); fault != want {
				t.Fatal(i, v, fault, want)
			}
			l.check(t)
		}
	}
}
