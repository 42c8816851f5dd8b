package tests

import (
	"math"
	"math/rand/v2"
	"slices"
	"strings"
	"testing"

	"loop.example/musicengine/impl"
)

// bounded are the lines over a cantus in a key with keys within bounds; all of them may be invalid.
type bounded struct {
	fifths int
	cantus []impl.Pitch
	low    int
	high   int
}

// count calls the program.
func (b bounded) count() int {
	return impl.CountLines(b.fifths, b.cantus, b.low, b.high)
}

// numbered calls the program.
func (b bounded) numbered(number int) ([]impl.Pitch, bool) {
	return impl.LineNumber(b.fifths, b.cantus, b.low, b.high, number)
}

// completed calls the program.
func (b bounded) completed() ([]impl.Pitch, bool) {
	return impl.CompleteLine(b.fifths, b.cantus, b.low, b.high)
}

// within is the same with other bounds.
func (b bounded) within(low int, high int) bounded {
	return bounded{b.fifths, b.cantus, low, high}
}

// withPitch is the same with another pitch of the cantus.
func (b bounded) withPitch(at int, p impl.Pitch) bounded {
	cantus := slices.Clone(b.cantus)
	cantus[at] = p
	return bounded{b.fifths, cantus, b.low, b.high}
}

// isValid tells what chapter 15 asks for, counted without the program.
func (b bounded) isValid() bool {
	return cantusIsValid(b.fifths, b.cantus) && b.low > -1 && b.low <= b.high && b.high < 108 && b.high < b.low+31
}

// boundedOf reads a cantus.
func boundedOf(t *testing.T, fifths int, cantus string, low int, high int) bounded {
	t.Helper()
	return bounded{fifths, pitchesOf(t, cantus), low, high}
}

// linesIn reads lines, divided by bars.
func linesIn(t *testing.T, text string) [][]impl.Pitch {
	t.Helper()
	var lines [][]impl.Pitch
	for _, line := range strings.Split(text, "|") {
		if list := pitchesOf(t, line); len(list) > 0 {
			lines = append(lines, list)
		}
	}
	return lines
}

// tried are the good lines of pitches that go up, found by trying all lines one by one, in order.
func (b bounded) tried(pitches []impl.Pitch) [][]impl.Pitch {
	var good [][]impl.Pitch
	o := overCantus{b.fifths, b.cantus, make([]impl.Pitch, len(b.cantus))}
	var goOn func(at int)
	goOn = func(at int) {
		if at == len(o.line) {
			if len(o.wantedFaults()) == 0 {
				good = append(good, slices.Clone(o.line))
			}
			return
		}
		for _, p := range pitches {
			o.line[at] = p
			goOn(at + 1)
		}
	}
	goOn(0)
	return good
}

// lineCounter counts good lines without the program, from their ends on. It keeps what it has counted.
type lineCounter struct {
	over    overCantus
	pitches []impl.Pitch
	behind  map[placedTone]int
}

// newLineCounter counts the lines over a valid cantus within bounds, which may be any.
func newLineCounter(b bounded) *lineCounter {
	over := overCantus{b.fifths, b.cantus, make([]impl.Pitch, len(b.cantus))}
	return &lineCounter{over, keyPitches(b.fifths, b.low, b.high), map[placedTone]int{}}
}

// fits tells whether a tone has no fault behind the one before it, which the line holds.
func (c *lineCounter) fits(tone placedTone) bool {
	c.over.line[tone.at] = tone.p
	return len(c.over.toneFaults(tone.at)) == 0 && len(c.over.stepFaults(tone.at)) == 0
}

// waysFrom tells how many ways there are from a tone to the end of a line.
func (c *lineCounter) waysFrom(tone placedTone) int {
	if tone.at == len(c.over.line)-1 {
		return 1
	}
	if ways, ok := c.behind[tone]; ok {
		return ways
	}
	ways := 0
	for _, p := range c.pitches {
		c.over.line[tone.at] = tone.p
		if next := (placedTone{tone.at + 1, p}); c.fits(next) {
			ways += c.waysFrom(next)
		}
	}
	c.behind[tone] = ways
	return ways
}

// total tells how many lines there are.
func (c *lineCounter) total() int {
	lines := 0
	for _, p := range c.pitches {
		if tone := (placedTone{0, p}); c.fits(tone) {
			lines += c.waysFrom(tone)
		}
	}
	return lines
}

// numberOf tells how many lines there are before a good one.
func (c *lineCounter) numberOf(line []impl.Pitch) int {
	number := 0
	for at, tone := range line {
		for _, p := range c.pitches {
			copy(c.over.line, line[:at])
			if other := (placedTone{at, p}); keyOf(p) < keyOf(tone) && c.fits(other) {
				number += c.waysFrom(other)
			}
		}
	}
	return number
}

// listed are the good lines within bounds, which may be any, in order, found tone by tone without the program.
func (b bounded) listed() [][]impl.Pitch {
	var lines [][]impl.Pitch
	counter := newLineCounter(b)
	var line []impl.Pitch
	var goOn func(at int)
	goOn = func(at int) {
		if at == len(b.cantus) {
			lines = append(lines, slices.Clone(line))
			return
		}
		for _, p := range counter.pitches {
			copy(counter.over.line, line)
			if tone := (placedTone{at, p}); counter.fits(tone) && counter.waysFrom(tone) > 0 {
				line = append(line, p)
				goOn(at + 1)
				line = line[:at]
			}
		}
	}
	goOn(0)
	return lines
}

// keysAreWithin tells whether the keys of all tones of a line are.
func keysAreWithin(line []impl.Pitch, low int, high int) bool {
	return slices.Min(keysIn(line)) >= low && slices.Max(keysIn(line)) <= high
}

// linesWithin are those of several lines whose keys are within bounds.
func linesWithin(lines [][]impl.Pitch, low int, high int) [][]impl.Pitch {
	return slices.DeleteFunc(slices.Clone(lines), func(line []impl.Pitch) bool { return !keysAreWithin(line, low, high) })
}

// isLater tells whether a line comes behind another one: the first tone that differs decides.
func isLater(line []impl.Pitch, before []impl.Pitch) bool {
	for at := range line {
		if keyOf(line[at]) != keyOf(before[at]) {
			return keyOf(line[at]) > keyOf(before[at])
		}
	}
	return false
}

// checkCount fails unless there are so many lines.
func checkCount(t *testing.T, b bounded, want int) {
	t.Helper()
	if count := b.count(); count != want {
		t.Fatal(b, count, want)
	}
}

// checkNumber fails unless a line has a number.
func checkNumber(t *testing.T, b bounded, number int, want []impl.Pitch) {
	t.Helper()
	if line, ok := b.numbered(number); !ok || !slices.Equal(line, want) {
		t.Fatal(b, number, line, ok, want)
	}
}

// checkNoNumber fails if there is a line with a number.
func checkNoNumber(t *testing.T, b bounded, number int) {
	t.Helper()
	if line, ok := b.numbered(number); ok || len(line) != 0 {
		t.Fatal(b, number, line, ok)
	}
}

// checkNumbers fails unless these lines have the numbers from 0 on, and others have none.
func checkNumbers(t *testing.T, b bounded, lines [][]impl.Pitch) {
	t.Helper()
	for number, line := range lines {
		checkNumber(t, b, number, line)
	}
	for _, number := range []int{-1, len(lines), len(lines) + 1} {
		checkNoNumber(t, b, number)
	}
}

// checkCompleted fails unless the first one of lines is found, or none if there are none.
func checkCompleted(t *testing.T, b bounded, lines [][]impl.Pitch) {
	t.Helper()
	line, ok := b.completed()
	if ok != (len(lines) > 0) || !ok && len(line) != 0 || ok && !slices.Equal(line, lines[0]) {
		t.Fatal(b, line, ok)
	}
}

// checkObeysAll fails unless a line is good, by the program and without it, and within bounds.
func checkObeysAll(t *testing.T, b bounded, line []impl.Pitch) {
	t.Helper()
	o := overCantus{b.fifths, b.cantus, line}
	if !o.isValid() || len(o.wantedFaults()) != 0 || len(o.faults()) != 0 || !o.good() || !keysAreWithin(line, b.low, b.high) {
		t.Fatal(b, line, o.faults())
	}
	for _, p := range line {
		if !isInKey(b.fifths, p) || !impl.InKey(b.fifths, p) {
			t.Fatal(b, line, p)
		}
	}
}

// checkAllRefused fails unless there is no answer at all.
func checkAllRefused(t *testing.T, b bounded, numbers []int) {
	t.Helper()
	checkCount(t, b, -1)
	checkCompleted(t, b, nil)
	for _, number := range numbers {
		checkNoNumber(t, b, number)
	}
}

// walkedCantus is a valid cantus with so many tones that goes by steps and small leaps from a place of the key.
func walkedCantus(source *rand.Rand, fifths int, count int, place int) []impl.Pitch {
	pitches := keyPitches(fifths, -1, 108)
	var cantus []impl.Pitch
	for range count {
		cantus = append(cantus, pitches[place])
		place = min(max(place+source.IntN(7)-3, 0), len(pitches)-1)
	}
	return cantus
}

// boundsOver are bounds of at most so many half tones near a cantus.
func boundsOver(source *rand.Rand, cantus []impl.Pitch, width int) (int, int) {
	low := min(max(slices.Min(keysIn(cantus))+source.IntN(12)-4, 0), 107)
	return low, min(low+width, 107)
}

// shortWalks are lines over cantus of 2 to 4 tones in all keys, at the beginning, in the middle and at the end of the range, always the same ones.
func shortWalks(seed uint64) []bounded {
	source := rand.New(rand.NewPCG(15, seed))
	var list []bounded
	for _, fifths := range validKeys() {
		for number, place := range []int{0, 3, 22, 28, 40, 55, 62} {
			cantus := walkedCantus(source, fifths, 2+number%3, place)
			width := 30
			if number%3 == 2 {
				width = 15 + source.IntN(10)
			}
			low, high := boundsOver(source, cantus, width)
			list = append(list, bounded{fifths, cantus, low, high})
		}
	}
	return list
}

// walks are lines over cantus of all lengths in all keys, always the same ones; there are at most 250 lines over each of them.
func walks(seed uint64) []bounded {
	source := rand.New(rand.NewPCG(15, seed))
	var list []bounded
	for _, fifths := range validKeys() {
		for count := 2; count <= 10; count++ {
			for round := range 3 {
				cantus := walkedCantus(source, fifths, count, []int{source.IntN(10), 10 + source.IntN(45), 50 + source.IntN(13)}[round])
				low, high := boundsOver(source, cantus, 30)
				b := bounded{fifths, cantus, low, high}
				for newLineCounter(b).total() > 250 {
					b.low, b.high = b.low+source.IntN(2), b.high-1
				}
				list = append(list, b)
			}
		}
	}
	return list
}

// wideWalks are lines over long cantus with the widest bounds, always the same ones, and those of longestOnes.
func wideWalks(t *testing.T, seed uint64) []bounded {
	t.Helper()
	source := rand.New(rand.NewPCG(15, seed))
	var list []bounded
	for _, c := range longestOnes {
		list = append(list, boundedOf(t, c.fifths, c.cantus, c.low, c.high))
	}
	for _, fifths := range validKeys() {
		for count := 8; count <= 10; count++ {
			cantus := walkedCantus(source, fifths, count, 10+source.IntN(30))
			low := max(slices.Min(keysIn(cantus))-source.IntN(3), 0)
			list = append(list, bounded{fifths, cantus, low, low + 30})
		}
	}
	return list
}

// longestOnes are cantus of MaxCantus pitches with the widest bounds, and how many lines there are over them.
var longestOnes = []struct {
	fifths    int
	cantus    string
	low, high int
	count     int
}{
	{0, "C4 D4 E4 F4 G4 A4 B4 A4 D4 C4", 48, 78, 87423},
	{0, "C4 D4 E4 F4 G4 A4 B4 A4 D4 C4", 48, 66, 27889},
	{0, "C4 D4 E4 F4 G4 A4 B4 A4 D4 C4", 55, 67, 13266},
	{0, "D4 F4 E4 D4 G4 F4 A4 G4 E4 D4", 48, 78, 76920},
	{0, "C4 E4 D4 C4 E4 D4 C4 D4 D4 C4", 48, 78, 106408},
	{-7, "Cb4 Eb4 Db4 Cb4 Eb4 Db4 Cb4 Db4 Db4 Cb4", 47, 77, 106408},
	{7, "C#4 E#4 D#4 C#4 E#4 D#4 C#4 D#4 D#4 C#4", 49, 79, 106408},
	{0, "C4 C4 C4 C4 C4 C4 C4 C4 C4 C4", 48, 78, 305342},
	{0, "E4 E4 E4 E4 E4 E4 E4 E4 E4 E4", 48, 78, 305342},
	{0, "A4 C5 D5 C5 A4 C5 D5 E5 B4 A4", 57, 87, 52967},
}

// completionsByText are all lines over a cantus within bounds, in order.
var completionsByText = []struct {
	fifths    int
	cantus    string
	low, high int
	lines     string
}{
	{0, "C4 D4 C4", 48, 60, "C4 F4 C4 | C4 F4 C5 | C4 A4 C4 | C4 A4 C5 | G4 F4 C4 | G4 F4 C5 | G4 B4 C5 | C5 F4 C4 | C5 F4 C5 | C5 A4 C4 | C5 A4 C5 | C5 B4 C5"},
	{0, "C4 D4 C4", 48, 78, "C4 F4 C4 | C4 F4 C5 | C4 A4 C4 | C4 A4 C5 | G4 F4 C4 | G4 F4 C5 | G4 B4 C5 | C5 F4 C4 | C5 F4 C5 | C5 A4 C4 | C5 A4 C5 | C5 B4 C5 | C5 F5 C5"},
	{7, "C#4 D#4 C#4", 49, 61, "C#4 F#4 C#4 | C#4 F#4 C#5 | C#4 A#4 C#4 | C#4 A#4 C#5 | G#4 F#4 C#4 | G#4 F#4 C#5 | G#4 B#4 C#5 | C#5 F#4 C#4 | C#5 F#4 C#5 | C#5 A#4 C#4 | C#5 A#4 C#5 | C#5 B#4 C#5"},
	{-7, "Cb4 Db4 Cb4", 47, 59, "Cb4 Fb4 Cb4 | Cb4 Fb4 Cb5 | Cb4 Ab4 Cb4 | Cb4 Ab4 Cb5 | Gb4 Fb4 Cb4 | Gb4 Fb4 Cb5 | Gb4 Bb4 Cb5 | Cb5 Fb4 Cb4 | Cb5 Fb4 Cb5 | Cb5 Ab4 Cb4 | Cb5 Ab4 Cb5 | Cb5 Bb4 Cb5"},
	{-1, "D4 F4 E4 D4", 57, 62, "A4 D5 C5 D5 | D5 A4 C5 D5"},
	{-1, "D4 F4 E4 D4", 50, 66, "D4 A4 G4 D4 | D4 A4 G4 D5 | D4 A4 C5 D5 | A4 F4 G4 D4 | A4 F4 G4 D5 | A4 F4 C5 D5 | A4 D5 G4 D4 | A4 D5 G4 D5 | A4 D5 C5 D5 | A4 F5 C5 D5 | D5 A4 G4 D4 | D5 A4 G4 D5 | D5 A4 C5 D5 | D5 C5 G4 D4 | D5 C5 G4 D5"},
	{0, "C4 E4 D4 C4", 55, 60, "G4 C5 A4 C5 | G4 C5 B4 C5 | C5 G4 A4 C5 | C5 G4 B4 C5"},

	// Tones that the bounds cut off, below and above.
	{0, "C4 D4 C4", 48, 59, "C4 F4 C4 | C4 A4 C4 | G4 F4 C4"},
	{0, "C4 D4 C4", 49, 60, "G4 F4 C5 | G4 B4 C5 | C5 F4 C5 | C5 A4 C5 | C5 B4 C5"},
	{0, "C4 D4 C4", 53, 60, "G4 F4 C5 | G4 B4 C5 | C5 F4 C5 | C5 A4 C5 | C5 B4 C5"},
	{0, "C4 D4 C4", 54, 60, "G4 B4 C5 | C5 A4 C5 | C5 B4 C5"},
	{0, "C4 D4 C4", 55, 60, "G4 B4 C5 | C5 A4 C5 | C5 B4 C5"},

	// Bounds in which no tone of the key lies.
	{0, "C4 D4 C4", 49, 49, ""},
	{0, "C4 D4 C4", 54, 54, ""},
	{-7, "Cb8 Bb7 Cb8", 107, 107, ""},
	{7, "C#0 D#0 C#0", 0, 0, ""},

	// Bounds in which there is no line, some of them of one key.
	{0, "C4 D4 C4", 49, 54, ""},
	{0, "C4 D4 C4", 60, 64, ""},
	{0, "C4 D4 C4", 0, 30, ""},
	{0, "C4 D4 C4", 77, 107, ""},
	{0, "C4 C4", 48, 54, ""},
	{0, "C4 C4", 48, 48, ""},
	{0, "C4 C4", 60, 60, ""},
	{0, "F3 B3", 47, 47, ""},
	{0, "F3 B3", 48, 48, ""},
	{0, "C4 C8 C4", 48, 78, ""},

	// One line alone, and bounds that are too narrow for it.
	{0, "F3 B3", 47, 48, "C4 B3"},
	{0, "F3 B3", 41, 71, "C4 B3"},
	{0, "C4 C4", 48, 78, "G4 C4 | G4 C5"},
	{0, "C4 C4", 48, 55, "G4 C4"},
	{0, "C4 C4", 55, 60, "G4 C5"},
	{0, "C4 C4", 56, 60, ""},
	{0, "C4 C4", 55, 59, ""},

	// The beginning of the range, and a cantus that sounds below it.
	{0, "C0 D0 C0", 0, 12, "C0 F0 C0 | C0 F0 C1 | C0 A0 C0 | C0 A0 C1 | G0 F0 C0 | G0 F0 C1 | G0 B0 C1 | C1 F0 C0 | C1 F0 C1 | C1 A0 C0 | C1 A0 C1 | C1 B0 C1"},
	{0, "C0 D0 C0", 1, 12, "G0 F0 C1 | G0 B0 C1 | C1 F0 C1 | C1 A0 C1 | C1 B0 C1"},
	{0, "C0 D0 C0", 0, 11, "C0 F0 C0 | C0 A0 C0 | G0 F0 C0"},
	{7, "C#0 D#0 C#0", 0, 12, "C#0 F#0 C#0 | C#0 A#0 C#0 | G#0 F#0 C#0"},
	{7, "C#0 D#0 C#0", 2, 13, "G#0 F#0 C#1 | G#0 B#0 C#1 | C#1 F#0 C#1 | C#1 A#0 C#1 | C#1 B#0 C#1"},
	{-7, "Cb0 Db0 Cb0", 0, 30, "Gb0 Fb0 Cb1 | Gb0 Bb0 Cb1 | Cb1 Fb0 Cb1 | Cb1 Ab0 Cb1 | Cb1 Bb0 Cb1 | Cb1 Fb1 Cb1"},
	{-7, "Cb0 Db0 Cb0", 0, 10, ""},
	{-7, "Gb0 Cb0", 0, 30, "Db1 Cb1"},
	{-7, "Gb0 Cb0", 0, 10, ""},

	// The end of the range, and a cantus that sounds beyond it.
	{0, "A8 G8 A8", 77, 107, "A8 B8 A8"},
	{0, "A8 G8 A8", 105, 107, "A8 B8 A8"},
	{0, "A8 G8 A8", 106, 107, ""},
	{0, "A8 G8 A8", 77, 106, ""},
	{0, "B8 A8 B8", 77, 107, ""},
	{0, "G7 A7 G7", 91, 107, "G7 C8 G7 | G7 C8 G8 | G7 E8 G7 | G7 E8 G8 | D8 C8 G7 | D8 C8 G8 | D8 F8 G8 | G8 C8 G7 | G8 C8 G8 | G8 E8 G7 | G8 E8 G8 | G8 F8 G8"},
	{7, "B#7 A#7 B#7", 96, 107, "B#7 C#8 B#7 | B#7 E#8 B#7 | B#7 F#8 B#7"},
	{7, "E#8 D#8 E#8", 101, 107, "E#8 F#8 E#8 | E#8 A#8 E#8"},
	{7, "A#8 B#8", 77, 107, ""},
	{7, "B#8 A#8", 77, 107, ""},
	{-7, "Cb8 Bb7 Cb8", 95, 107, "Cb8 Db8 Cb8 | Cb8 Gb8 Cb8 | Gb8 Db8 Cb8"},
	{-7, "Eb8 Db8 Eb8", 77, 107, "Eb8 Fb8 Eb8 | Eb8 Ab8 Eb8 | Eb8 Bb8 Eb8 | Bb8 Fb8 Eb8"},
}

func TestP5LinesByText(t *testing.T) {
	for _, c := range completionsByText {
		b, lines := boundedOf(t, c.fifths, c.cantus, c.low, c.high), linesIn(t, c.lines)
		if listed := b.listed(); !b.isValid() || !slices.EqualFunc(listed, lines, slices.Equal) {
			t.Error(c, listed)
		}
		checkNumbers(t, b, lines)
	}
}

// spelledLines are cantus with bounds in which all pitches, by all of their names, can be tried.
func spelledLines(t *testing.T) []bounded {
	t.Helper()
	return []bounded{
		boundedOf(t, 0, "C4 C4", 41, 71), boundedOf(t, 0, "F3 B3", 41, 71), boundedOf(t, -7, "Gb0 Cb0", 0, 30), boundedOf(t, 0, "G7 C8", 77, 107),
		boundedOf(t, 0, "C4 D4 C4", 48, 60), boundedOf(t, -7, "Cb4 Db4 Cb4", 47, 59), boundedOf(t, 7, "C#4 D#4 C#4", 49, 61),
		boundedOf(t, 2, "B3 C#4 B3", 47, 60), boundedOf(t, -3, "Eb4 C4 D4", 50, 62),
		boundedOf(t, -7, "Cb0 Db0 Cb0", 0, 12), boundedOf(t, 7, "B#7 A#7 B#7", 95, 107),
	}
}

// pitchesUp are all valid pitches with keys within bounds, upwards, by all of their names.
func pitchesUp(low int, high int) []impl.Pitch {
	spelled := spelledKeys()
	var list []impl.Pitch
	for key := low; key <= high; key++ {
		list = append(list, spelled[key]...)
	}
	return list
}

// eachTried tries all lines over short cantus one by one, and hands on the good ones: over some cantus those of the tones of the key, and over others those of all pitches.
func eachTried(t *testing.T, seed uint64, try func(b bounded, lines [][]impl.Pitch)) {
	t.Helper()
	with, without := 0, 0
	for _, b := range shortWalks(seed) {
		lines := b.tried(keyPitches(b.fifths, b.low, b.high))
		try(b, lines)
		if len(lines) > 0 {
			with++
		} else {
			without++
		}
	}
	if with < 50 || without < 5 {
		t.Fatal(with, without)
	}
	for _, b := range spelledLines(t) {
		try(b, b.tried(pitchesUp(b.low, b.high)))
	}
}

func TestP5EveryLineOfShortCantus(t *testing.T) {
	eachTried(t, 5, func(b bounded, lines [][]impl.Pitch) {
		checkNumbers(t, b, lines)
		if listed := b.listed(); !slices.EqualFunc(listed, lines, slices.Equal) {
			t.Fatal(b, listed, lines)
		}
	})
}

// TestP5OtherNamesAreInNoLine tries all lines of all pitches, in the key or not: none but those of the tones of the key have numbers.
func TestP5OtherNamesAreInNoLine(t *testing.T) {
	for _, b := range spelledLines(t) {
		lines := b.tried(pitchesUp(b.low, b.high))
		if len(lines) == 0 {
			t.Fatal(b)
		}
		checkNumbers(t, b, lines)
		for _, line := range lines {
			for at, tone := range line {
				for _, p := range spelledKeys()[keyOf(tone)] {
					o := overCantus{b.fifths, b.cantus, line}.withTone(at, p)
					if found := slices.ContainsFunc(lines, func(other []impl.Pitch) bool { return slices.Equal(other, o.line) }); found != (p == tone) || o.good() != found {
						t.Fatal(b, line, p)
					}
				}
			}
		}
	}
}

// TestP5EveryNumberInTurn holds all numbered lines over cantus of all lengths against the lines found without the program.
func TestP5EveryNumberInTurn(t *testing.T) {
	lengths, all := map[int]int{}, 0
	for _, b := range walks(50) {
		lines := b.listed()
		seen := map[string]bool{}
		var before []impl.Pitch
		for number := range lines {
			line, ok := b.numbered(number)
			if !ok || seen[pitchesText(line)] || number > 0 && !isLater(line, before) {
				t.Fatal(b, number, line, ok, before)
			}
			checkObeysAll(t, b, line)
			seen[pitchesText(line)], before = true, line
		}
		checkNumbers(t, b, lines)
		all += len(lines)
		if len(lines) > 0 {
			lengths[len(b.cantus)]++
		}
	}
	for count := 2; count <= 10; count++ {
		if lengths[count] < 10 {
			t.Fatal(lengths)
		}
	}
	if all < 10000 {
		t.Fatal(all)
	}
}

// numbersOf are the first numbers of so many lines, the last ones, and some between.
func numbersOf(source *rand.Rand, count int) []int {
	numbers := []int{0, 1, count / 2, count - 2, count - 1}
	for range 40 {
		numbers = append(numbers, source.IntN(count))
	}
	slices.Sort(numbers)
	return slices.DeleteFunc(slices.Compact(numbers), func(number int) bool { return number < 0 || number >= count })
}

// TestP5VeryManyLines takes some of the lines over long cantus with the widest bounds and counts those before them.
func TestP5VeryManyLines(t *testing.T) {
	source := rand.New(rand.NewPCG(15, 500))
	many := 0
	for _, b := range wideWalks(t, 500) {
		counter := newLineCounter(b)
		total := counter.total()
		if total == 0 {
			checkNumbers(t, b, nil)
			continue
		}
		if total > 10000 {
			many++
		}
		var before []impl.Pitch
		for _, number := range numbersOf(source, total) {
			line, ok := b.numbered(number)
			if !ok || counter.numberOf(line) != number || before != nil && !isLater(line, before) {
				t.Fatal(b, number, line, ok)
			}
			checkObeysAll(t, b, line)
			before = line
		}
		for _, number := range []int{-1, total, total + 1, 2 * total, -total} {
			checkNoNumber(t, b, number)
		}
	}
	if many < 30 {
		t.Fatal(many)
	}
}

// TestP5NumbersThatDoNotExist asks for lines with numbers that come back to that of a line if they are cut off, or without their sign.
func TestP5NumbersThatDoNotExist(t *testing.T) {
	for _, b := range slices.Concat(spelledLines(t), walks(5000), shortWalks(5000)) {
		count := newLineCounter(b).total()
		numbers := slices.Clone(farNumbers)
		for _, far := range []int{1 << 8, 1 << 16, 1 << 31, 1 << 32, 1 << 62, math.MinInt} {
			numbers = append(numbers, far, -far, far+count-1, -far+count-1)
		}
		for more := range 20 {
			numbers = append(numbers, count+more, -1-more, count*(more+1), -count-more)
		}
		for _, number := range numbers {
			if number < 0 || number >= count {
				checkNoNumber(t, b, number)
			}
		}
	}
}

// TestP5WithoutOneKey takes the bounds one key closer to the least tone of each line and to its greatest one: then it has no number.
func TestP5WithoutOneKey(t *testing.T) {
	for number, b := range walks(50000) {
		if number%3 != 0 {
			continue
		}
		for _, line := range b.listed() {
			low, high := slices.Min(keysIn(line)), slices.Max(keysIn(line))
			narrow := b.within(low, high)
			lines := narrow.listed()
			at := slices.IndexFunc(lines, func(other []impl.Pitch) bool { return slices.Equal(other, line) })
			checkNumber(t, narrow, at, line)
			for _, closer := range []bounded{b.within(low+1, b.high), b.within(b.low, high-1)} {
				for number := range newLineCounter(closer).total() {
					if other, _ := closer.numbered(number); slices.Equal(other, line) {
						t.Fatal(closer, number, line)
					}
				}
			}
			if len(lines) > 20 {
				break
			}
		}
	}
}

// refusedBounded are lines of all sorts for which there is no answer; there would be many of them but for one argument.
func refusedBounded(t *testing.T) []bounded {
	t.Helper()
	groups := [][]bounded{wrongCounts(), wrongPitches(t), wrongKeys(t), wrongBounds(t)}
	for number, group := range groups {
		if len(group) < 100 {
			t.Fatal(number, len(group))
		}
	}
	return slices.Concat(groups...)
}

// wrongCounts have too few tones of the cantus, or too many.
func wrongCounts() []bounded {
	source := rand.New(rand.NewPCG(15, 51))
	list := []bounded{{}, {0, nil, 48, 78}, {0, []impl.Pitch{}, 48, 78}, {0, nil, 0, 0}, {7, nil, 77, 107}}
	for _, fifths := range validKeys() {
		for _, count := range []int{0, 1, 11, 12, 13, 20, 60, 256, 256 + 2, 256 + 10, 1<<16 + 2} {
			cantus := walkedCantus(source, fifths, count, 25)
			list = append(list, bounded{fifths, cantus, 36, 66}, bounded{fifths, slices.Repeat(cantus[:min(1, count)], count), 36, 66})
		}
	}
	return list
}

// wrongPitches have a pitch of the cantus, at the first, at a middle and at the last place, that is not valid or not in the key.
func wrongPitches(t *testing.T) []bounded {
	t.Helper()
	var list []bounded
	spelled := spelledKeys()
	for _, b := range []bounded{boundedOf(t, 0, "C4 D4 C4", 48, 60), boundedOf(t, -7, "Cb4 Eb4 Db4 Cb4", 47, 77), boundedOf(t, 7, "C#4 E#4 D#4 C#4 E#4 D#4 C#4 D#4 D#4 C#4", 49, 79)} {
		for _, at := range []int{0, len(b.cantus) / 2, len(b.cantus) - 1} {
			for _, bad := range badPitches() {
				list = append(list, b.withPitch(at, bad))
			}
			for _, p := range spelled[keyOf(b.cantus[at])] {
				if p != b.cantus[at] {
					list = append(list, b.withPitch(at, p))
				}
			}
			for alter := -2; alter <= 2; alter++ {
				p := b.cantus[at]
				if p.Alter != alter {
					p.Alter = alter
					list = append(list, b.withPitch(at, p))
				}
			}
		}
	}
	return list
}

// wrongKeys are in keys that there are not.
func wrongKeys(t *testing.T) []bounded {
	t.Helper()
	var list []bounded
	for _, fifths := range badKeys() {
		list = append(list, boundedOf(t, fifths, "C4 D4 C4", 48, 60), boundedOf(t, fifths, "Cb4 Db4 Cb4", 47, 59), boundedOf(t, fifths, "C#4 D#4 C#4", 49, 61))
	}
	// The keys that would come next, of which the cantus has all alterations.
	return append(list, boundedOf(t, 8, "C#4 D#4 F##4 C#4", 49, 70), boundedOf(t, -8, "Cb4 Db4 Bbb3 Cb4", 45, 70))
}

// wrongBounds have bounds that are too low, too high, too far apart or in the wrong order.
func wrongBounds(t *testing.T) []bounded {
	t.Helper()
	middle, first, last := boundedOf(t, 0, "C4 D4 C4", 48, 60), boundedOf(t, 0, "C0 D0 C0", 0, 30), boundedOf(t, 0, "A8 G8 A8", 77, 107)
	list := []bounded{first.within(-1, 29), first.within(-1, 12), first.within(-1, -1), first.within(-30, 0), last.within(78, 108), last.within(105, 108), last.within(108, 108), last.within(107, 137)}
	for _, b := range []bounded{first, middle, last} {
		for _, far := range farNumbers {
			list = append(list, b.within(far, b.high), b.within(b.low, far), b.within(far, far), b.within(far, -far), b.within(b.low+far, b.high+far))
		}
		for _, far := range []int{1 << 8, 1 << 16, 1 << 32, -1 << 32, 1 << 62, math.MinInt} {
			list = append(list, b.within(b.low+far, b.high), b.within(b.low, b.high+far), b.within(b.low+far, b.high+far))
		}
		list = append(list, b.within(b.high, b.low), b.within(b.low, b.low-1), b.within(b.high+1, b.high), b.within(b.low, b.low+31), b.within(b.high-31, b.high), b.within(0, 107), b.within(-b.high, -b.low-1))
	}
	for low := range 77 {
		list = append(list, middle.within(low, low+31), middle.within(low, low+32), middle.within(low+31, low))
	}
	return list
}

func TestP5OtherLinesHaveNoNumbers(t *testing.T) {
	numbers := append([]int{-1, 0, 1, 2, 5}, farNumbers...)
	for _, b := range refusedBounded(t) {
		if b.isValid() {
			t.Fatal(b)
		}
		for _, number := range numbers {
			checkNoNumber(t, b, number)
		}
	}
}

// overwrite writes to a line and to the memory behind it.
func overwrite(line []impl.Pitch) {
	all := line[:cap(line)]
	for at := range all {
		all[at] = impl.Pitch{Step: -1, Alter: -1, Octave: -1}
	}
}

// TestP5LinesAreNewMemory writes to lines, which changes neither the cantus nor other lines.
func TestP5LinesAreNewMemory(t *testing.T) {
	for _, b := range slices.Concat(walks(500000), spelledLines(t), refusedBounded(t)) {
		cantus, check := lendPitches(b.cantus)
		lent := bounded{b.fifths, cantus, b.low, b.high}
		for _, number := range []int{0, 1, max(0, b.count()-1)} {
			first, _ := lent.numbered(number)
			second, _ := lent.numbered(number)
			want := slices.Clone(first)
			overwrite(first)
			third, _ := lent.numbered(number)
			if !slices.Equal(second, want) || !slices.Equal(third, want) {
				t.Fatal(b, number, second, third, want)
			}
			check(t)
		}
	}
}

func TestP6LinesByText(t *testing.T) {
	for _, c := range completionsByText {
		checkCompleted(t, boundedOf(t, c.fifths, c.cantus, c.low, c.high), linesIn(t, c.lines))
	}
}

func TestP6FirstOfAllLines(t *testing.T) {
	eachTried(t, 6, func(b bounded, lines [][]impl.Pitch) {
		checkCompleted(t, b, lines)
	})
}

// TestP6CompletedLinesObeyEveryRule takes cantus of all lengths, among them the longest ones with the widest bounds.
func TestP6CompletedLinesObeyEveryRule(t *testing.T) {
	found, none := 0, 0
	for _, b := range slices.Concat(walks(60), wideWalks(t, 60)) {
		line, ok := b.completed()
		if !ok {
			checkCompleted(t, b, nil)
			if newLineCounter(b).total() != 0 {
				t.Fatal(b)
			}
			none++
			continue
		}
		checkObeysAll(t, b, line)
		checkNumber(t, b, 0, line)
		if before := newLineCounter(b).numberOf(line); before != 0 {
			t.Fatal(b, line, before)
		}
		found++
	}
	if found < 200 || none < 20 {
		t.Fatal(found, none)
	}
}

// TestP6OneLineAlone looks for bounds in which there is exactly one line, and makes them too narrow for it.
func TestP6OneLineAlone(t *testing.T) {
	alone := 0
	for _, b := range walks(600) {
		lines := b.listed()
		if len(lines) == 0 {
			continue
		}
		for _, line := range [][]impl.Pitch{lines[0], lines[len(lines)/2], lines[len(lines)-1]} {
			narrow := b.within(slices.Min(keysIn(line)), slices.Max(keysIn(line)))
			some := linesWithin(lines, narrow.low, narrow.high)
			checkCompleted(t, narrow, some)
			if len(some) != 1 {
				continue
			}
			alone++
			checkCompleted(t, narrow.within(narrow.low+1, narrow.high), nil)
			checkCompleted(t, narrow.within(narrow.low, narrow.high-1), nil)
		}
	}
	if alone < 100 {
		t.Fatal(alone)
	}
}

func TestP6OtherLinesAreNotCompleted(t *testing.T) {
	for _, b := range refusedBounded(t) {
		checkCompleted(t, b, nil)
	}
}

// TestP6LinesAreNewMemory writes to lines, which changes neither the cantus nor other lines.
func TestP6LinesAreNewMemory(t *testing.T) {
	for _, b := range slices.Concat(walks(6000), spelledLines(t), refusedBounded(t)) {
		cantus, check := lendPitches(b.cantus)
		lent := bounded{b.fifths, cantus, b.low, b.high}
		first, _ := lent.completed()
		second, _ := lent.completed()
		numbered, _ := lent.numbered(0)
		want := slices.Clone(first)
		overwrite(first)
		third, _ := lent.completed()
		if !slices.Equal(second, want) || !slices.Equal(third, want) || !slices.Equal(numbered, want) {
			t.Fatal(b, second, third, numbered, want)
		}
		check(t)
	}
}

func TestP72CountsByText(t *testing.T) {
	for _, c := range completionsByText {
		checkCount(t, boundedOf(t, c.fifths, c.cantus, c.low, c.high), len(linesIn(t, c.lines)))
	}
	for _, c := range longestOnes {
		b := boundedOf(t, c.fifths, c.cantus, c.low, c.high)
		checkCount(t, b, c.count)
		if total := newLineCounter(b).total(); total != c.count {
			t.Fatal(c, total)
		}
	}
}

func TestP72AllLinesOfShortCantus(t *testing.T) {
	eachTried(t, 72, func(b bounded, lines [][]impl.Pitch) {
		checkCount(t, b, len(lines))
	})
}

func TestP72CountsOfAllLengths(t *testing.T) {
	for _, b := range slices.Concat(walks(72), wideWalks(t, 72)) {
		checkCount(t, b, newLineCounter(b).total())
	}
}

// everyBoundsOf are cantus of a few tones in several keys, also at the beginning and at the end of the range.
func everyBoundsOf(t *testing.T) []bounded {
	t.Helper()
	var list []bounded
	for _, c := range []struct {
		fifths int
		cantus string
	}{
		{0, "C4 D4 C4"}, {0, "C4 C4"}, {0, "F3 B3"}, {-1, "D4 F4 E4 D4"}, {-7, "Cb0 Db0 Cb0"}, {-7, "Gb0 Cb0"}, {0, "C0 D0 E0 C0"}, {7, "C#0 D#0 C#0"},
		{7, "B#7 A#7 B#7"}, {7, "E#8 D#8 E#8"}, {0, "G7 A7 G7"}, {-7, "Eb8 Db8 Cb8 Eb8"}, {3, "A4 F#5 E5 A4"}, {0, "C4 C8 C4"}, {7, "A#8 B#8"},
	} {
		list = append(list, boundedOf(t, c.fifths, c.cantus, 0, 107))
	}
	return list
}

// eachBounds tries all pairs of bounds in the range and a little beyond it with the good lines of a cantus, found without bounds; there are none for bounds that are not valid.
func eachBounds(whole bounded, try func(b bounded, lines [][]impl.Pitch)) {
	all := whole.listed()
	for low := -2; low <= 109; low++ {
		for high := -2; high <= 109; high++ {
			if b := whole.within(low, high); b.isValid() {
				try(b, linesWithin(all, low, high))
			} else {
				try(b, nil)
			}
		}
	}
}

// TestP72EveryBounds counts within all bounds; there is a line exactly if one is found, which is the first one.
func TestP72EveryBounds(t *testing.T) {
	for _, whole := range everyBoundsOf(t) {
		eachBounds(whole, func(b bounded, lines [][]impl.Pitch) {
			if !b.isValid() {
				checkAllRefused(t, b, []int{0})
				return
			}
			checkCount(t, b, len(lines))
			checkCompleted(t, b, lines)
		})
	}
}

// TestP72WiderBounds makes bounds wider, below and above, by one key after the other.
func TestP72WiderBounds(t *testing.T) {
	more := 0
	for _, b := range slices.Concat(walks(720), wideWalks(t, 720)) {
		middle := (b.low + b.high) / 2
		below, above := b.within(middle, middle), b.within(middle, middle)
		for below.low > max(0, middle-30) {
			wider := below.within(below.low-1, below.high)
			if wider.count() < below.count() {
				t.Fatal(below, wider.count(), below.count())
			}
			below = wider
		}
		for above.high < min(107, middle+30) {
			wider := above.within(above.low, above.high+1)
			if wider.count() < above.count() {
				t.Fatal(above, wider.count(), above.count())
			}
			if wider.count() > above.count() {
				more++
			}
			above = wider
		}
	}
	if more < 100 {
		t.Fatal(more)
	}
}

func TestP72ThereIsOneIfItIsFound(t *testing.T) {
	for _, b := range slices.Concat(walks(7200), wideWalks(t, 7200), shortWalks(7200), refusedBounded(t)) {
		count := b.count()
		_, completed := b.completed()
		_, first := b.numbered(0)
		_, last := b.numbered(count - 1)
		if found := count > 0; completed != found || first != found || last != found {
			t.Fatal(b, count, completed, first, last)
		}
	}
}

func TestP72OtherLinesAreNotCounted(t *testing.T) {
	for _, b := range refusedBounded(t) {
		if b.isValid() {
			t.Fatal(b)
		}
		checkCount(t, b, -1)
	}
}

// TestP72LimitsOfBounds has the least and the greatest bounds that there are, each of which is refused one key farther.
func TestP72LimitsOfBounds(t *testing.T) {
	first, last := boundedOf(t, 0, "C0 D0 C0", 0, 30), boundedOf(t, 0, "A8 G8 A8", 77, 107)
	checkCount(t, first, 13)
	checkCount(t, first.within(0, 0), 0)
	checkCount(t, first.within(0, 12), 12)
	checkCount(t, last, 1)
	checkCount(t, last.within(107, 107), 0)
	checkCount(t, last.within(105, 107), 1)
	for _, b := range []bounded{first.within(-1, 29), first.within(-1, 12), first.within(0, 31), first.within(0, -1), last.within(78, 108), last.within(105, 108), last.within(76, 107), last.within(107, 106), last.within(108, 107), last.within(108, 108)} {
		checkAllRefused(t, b, []int{-1, 0, 1})
	}
	for low := range 108 {
		b := boundedOf(t, 0, "C4 D4 C4", low, min(107, low+30))
		checkCount(t, b, newLineCounter(b).total())
		checkCount(t, b.within(low, low), 0)
		checkCount(t, b.within(low, low-1), -1)
		checkCount(t, b.within(low, low+31), -1)
	}
}

func TestP72CantusAreOnlyRead(t *testing.T) {
	for _, b := range slices.Concat(walks(72000), refusedBounded(t)) {
		cantus, check := lendPitches(b.cantus)
		checkCount(t, bounded{b.fifths, cantus, b.low, b.high}, b.count())
		check(t)
	}
}

// widerOnes are wider bounds: by one key below, above and on both sides, and as wide as they can be, as far as they are valid.
func (b bounded) widerOnes() []bounded {
	list := []bounded{
		b.within(b.low-1, b.high), b.within(b.low, b.high+1), b.within(b.low-1, b.high+1),
		b.within(max(0, b.high-30), b.high), b.within(b.low, min(107, b.low+30)), b.within(b.low-3, b.high+3),
	}
	return slices.DeleteFunc(list, func(wider bounded) bool { return !wider.isValid() })
}

// allNumbered are all lines that have numbers.
func (b bounded) allNumbered(t *testing.T) [][]impl.Pitch {
	t.Helper()
	var lines [][]impl.Pitch
	// Counted without the program, which might not come to an end of a wrong count.
	for number := range newLineCounter(b).total() {
		line, ok := b.numbered(number)
		if !ok {
			t.Fatal(b, number)
		}
		lines = append(lines, line)
	}
	checkNoNumber(t, b, len(lines))
	return lines
}

// TestP128LinesAreAmongThoseOfWiderBounds asks for all lines within bounds and within wider ones: both have the same order, and those of the wider bounds alone have a tone beyond the others.
func TestP128LinesAreAmongThoseOfWiderBounds(t *testing.T) {
	all, more := 0, 0
	for number, b := range walks(128) {
		if number%2 != 0 {
			continue
		}
		lines := b.allNumbered(t)
		for _, wider := range b.widerOnes() {
			if newLineCounter(wider).total() > 400 {
				continue
			}
			others := wider.allNumbered(t)
			if !slices.EqualFunc(linesWithin(others, b.low, b.high), lines, slices.Equal) {
				t.Fatal(b, wider, lines, others)
			}
			all++
			if len(others) > len(lines) {
				more++
			}
		}
	}
	if all < 400 || more < 100 {
		t.Fatal(all, more)
	}
}

// TestP128LinesAreGoodWithinWiderBounds counts which numbers lines have within wider bounds.
func TestP128LinesAreGoodWithinWiderBounds(t *testing.T) {
	source := rand.New(rand.NewPCG(15, 1280))
	for _, b := range slices.Concat(walks(1280), wideWalks(t, 1280)) {
		b = b.within(b.low, max(b.low, b.high-source.IntN(8)))
		count := b.count()
		if count == 0 {
			continue
		}
		numbers := numbersOf(source, count)
		for _, wider := range b.widerOnes() {
			counter := newLineCounter(wider)
			for _, number := range numbers[:min(len(numbers), 12)] {
				line, _ := b.numbered(number)
				checkObeysAll(t, wider, line)
				at := counter.numberOf(line)
				if at < number {
					t.Fatal(b, wider, number, at)
				}
				checkNumber(t, wider, at, line)
			}
		}
	}
}

// TestP128EveryBounds takes the lines within all bounds, and looks for them within those that are wider by one key on both sides.
func TestP128EveryBounds(t *testing.T) {
	for _, whole := range everyBoundsOf(t)[:8] {
		all := whole.listed()
		eachBounds(whole, func(b bounded, lines [][]impl.Pitch) {
			wider := b.within(b.low-1, b.high+1)
			if !wider.isValid() {
				return
			}
			others := linesWithin(all, wider.low, wider.high)
			for number, line := range lines {
				checkNumber(t, b, number, line)
				at := slices.IndexFunc(others, func(other []impl.Pitch) bool { return slices.Equal(other, line) })
				checkNumber(t, wider, at, line)
			}
		})
	}
}
