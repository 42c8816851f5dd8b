package impl

import (
	"strconv"
	"strings"
)

// Pitch is a pitch: its step, from 0 for C to 6 for B, how many half tones it is raised, or lowered if that is negative, and its octave.
type Pitch struct {
	Step   int
	Alter  int
	Octave int
}

// MaxOctave is the largest octave.
const MaxOctave = 8

const (
	stepsInOctave  = 7
	halvesInOctave = 12
	maxAlter       = 2
	alterCount     = 2*maxAlter + 1
	lastKey        = halvesInOctave*(MaxOctave+1) - 1
	stepLetters    = "CDEFGAB"
)

// stepHalves holds how many half tones each step is above the C below it.
var stepHalves = [stepsInOctave]int{0, 2, 4, 5, 7, 9, 11}

// PitchValid reports whether Step is in 0..6, Alter in -2..2 and Octave in 0..MaxOctave.
func PitchValid(p Pitch) bool {
	return p.Step >= 0 && p.Step < stepsInOctave &&
		p.Alter >= -maxAlter && p.Alter <= maxAlter &&
		p.Octave >= 0 && p.Octave <= MaxOctave
}

// PitchPlace returns the place of a valid pitch in the order of steps: 7 * Octave + Step; -1 for other pitches.
func PitchPlace(p Pitch) int {
	number, ok := pitchNumber(p)
	if !ok {
		return -1
	}
	return numberPlace(number)
}

// PitchKey returns the key of a valid pitch, in half tones: 12 * Octave, plus 0, 2, 4, 5, 7, 9 or 11 for Step 0 to 6, plus Alter; it may be negative; -100 for other pitches.
func PitchKey(p Pitch) int {
	number, ok := pitchNumber(p)
	if !ok {
		return -100
	}
	return plainHalves(numberPlace(number)) + numberAlter(number)
}

// PitchText returns the text of a valid pitch: a letter of CDEFGAB for its step, # for each half tone up or b for each down, and the octave as a digit; "" for other pitches.
func PitchText(p Pitch) string {
	number, ok := pitchNumber(p)
	if !ok {
		return ""
	}
	place := numberPlace(number)
	step := place % stepsInOctave
	return stepLetters[step:step+1] + alterText(numberAlter(number)) + strconv.Itoa(place/stepsInOctave)
}

// ReadPitch returns the pitch whose PitchText is a text, and true; the zero value and false if there is none.
func ReadPitch(s string) (Pitch, bool) {
	if len(s) < 2 {
		return Pitch{}, false
	}
	last := len(s) - 1
	alter, ok := readAlter(s[1:last])
	p := Pitch{Step: strings.IndexByte(stepLetters, s[0]), Alter: alter, Octave: int(s[last]) - '0'}
	if !ok || !PitchValid(p) {
		return Pitch{}, false
	}
	return p, true
}

// SpellKey returns a pitch with a key in 0..107, with at most one alteration, upwards, or downwards if flats are asked for, and true; the zero value and false for other keys.
func SpellKey(key int, flats bool) (Pitch, bool) {
	if key < 0 || key > lastKey {
		return Pitch{}, false
	}
	octave, halves := key/halvesInOctave, key%halvesInOctave
	if step, ok := stepWith(halves); ok {
		return Pitch{Step: step, Octave: octave}, true
	}
	alter := 1
	if flats {
		alter = -1
	}
	// Two neighbouring half tones never both lack a step, so this always finds one.
	step, _ := stepWith(halves - alter)
	return Pitch{Step: step, Alter: alter, Octave: octave}, true
}

// pitchNumber returns the one number that stands for a valid pitch, and true: places decide first, then alterations; 0 and false for other pitches.
func pitchNumber(p Pitch) (int, bool) {
	if !PitchValid(p) {
		return 0, false
	}
	place := stepsInOctave*p.Octave + p.Step
	return place*alterCount + p.Alter + maxAlter, true
}

// numberPlace returns the place of the pitch with a number.
func numberPlace(number int) int {
	return number / alterCount
}

// numberAlter returns the alterations of the pitch with a number.
func numberAlter(number int) int {
	return number%alterCount - maxAlter
}

// plainHalves returns how many half tones it is from C up so many steps, at least 0, without alterations.
func plainHalves(steps int) int {
	return halvesInOctave*(steps/stepsInOctave) + stepHalves[steps%stepsInOctave]
}

// alterText returns the signs that are written for alterations in -maxAlter..maxAlter.
func alterText(alter int) string {
	if alter < 0 {
		return strings.Repeat("b", -alter)
	}
	return strings.Repeat("#", alter)
}

// readAlter returns the alterations for which signs are written, and true; 0 and false if there are none.
func readAlter(signs string) (int, bool) {
	for alter := -maxAlter; alter <= maxAlter; alter++ {
		if alterText(alter) == signs {
			return alter, true
		}
	}
	return 0, false
}

// stepWith returns the step that is a number of half tones above the C below it, and true; 0 and false if there is none.
func stepWith(halves int) (int, bool) {
	for step, above := range stepHalves {
		if above == halves {
			return step, true
		}
	}
	return 0, false
}

// pitchAt returns the valid pitch with a place and a key, and true; the zero value and false if there is none.
func pitchAt(place int, key int) (Pitch, bool) {
	// Checked here because plainHalves takes no negative steps.
	if place < 0 {
		return Pitch{}, false
	}
	p := Pitch{Step: place % stepsInOctave, Alter: key - plainHalves(place), Octave: place / stepsInOctave}
	if !PitchValid(p) {
		return Pitch{}, false
	}
	return p, true
}
