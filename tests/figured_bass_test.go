package tests

import (
	"math"
	"math/rand/v2"
	"slices"
	"strconv"
	"strings"
	"testing"

	"loop.example/musicengine/impl"
)

// stepsOfFigure are the steps of the tones above the bass, by the figures.
var stepsOfFigure = map[int][]int{5: {2, 4}, 6: {2, 5}, 4: {3, 5}, 7: {2, 4, 6}}

// allFigures are all figures.
var allFigures = []int{4, 5, 6, 7}

// bassLine is a bass and its figures in a key; all of them may be invalid.
type bassLine struct {
	fifths  int
	bass    []impl.Pitch
	figures []int
}

// part is the line from one number to another one.
func (l bassLine) part(from int, to int) bassLine {
	return bassLine{l.fifths, l.bass[from:to], l.figures[from:to]}
}

// realize calls the program.
func (l bassLine) realize() ([][]impl.Pitch, bool) {
	return impl.RealizeBass(l.fifths, l.bass, l.figures)
}

// faultIn calls the program.
func (l bassLine) faultIn(list [][]impl.Pitch) int {
	return impl.RealizeFault(l.fifths, l.bass, l.figures, list)
}

// lineOf reads a bass with figures: a pitch, a colon and a figure for each; spaces divide them.
func lineOf(t *testing.T, fifths int, text string) bassLine {
	t.Helper()
	line := bassLine{fifths: fifths}
	for _, word := range strings.Fields(text) {
		pitch, digits, _ := strings.Cut(word, ":")
		figure, err := strconv.Atoi(digits)
		if err != nil {
			t.Fatal(text)
		}
		line.bass = append(line.bass, readPitch(t, pitch))
		line.figures = append(line.figures, figure)
	}
	return line
}

// tonesOf are the tones of a figure, counted step by step without the program; none if one of them is not valid, and for other arguments.
func tonesOf(fifths int, bass impl.Pitch, figure int) []impl.Pitch {
	if fifths < -7 || fifths > 7 || !pitchIsValid(bass) || len(stepsOfFigure[figure]) == 0 {
		return nil
	}
	tones := []impl.Pitch{bass}
	for _, steps := range stepsOfFigure[figure] {
		tone := bass
		for range steps {
			tone.Step++
			if tone.Step == 7 {
				tone.Step, tone.Octave = 0, tone.Octave+1
			}
		}
		tone.Alter = orderedAlter(fifths, tone.Step)
		if tone.Octave > 8 {
			return nil
		}
		tones = append(tones, tone)
	}
	return tones
}

// figured is a bass pitch with its figure in a key.
type figured struct {
	fifths int
	bass   impl.Pitch
	figure int
}

// realizer realizes basses without the program. It keeps the chords that it has found.
type realizer struct {
	spelled map[int][]impl.Pitch
	chords  map[figured][][]impl.Pitch
}

func newRealizer() *realizer {
	return &realizer{spelledKeys(), map[figured][][]impl.Pitch{}}
}

// sung are the pitches that a voice may have for tones, in order.
func (r *realizer) sung(voice int, tones []impl.Pitch) []impl.Pitch {
	var list []impl.Pitch
	for key := voiceLimits[voice][0]; key <= voiceLimits[voice][1]; key++ {
		for _, tone := range tones {
			for _, p := range r.spelled[key] {
				if sameTone(p, tone) {
					list = append(list, p)
				}
			}
		}
	}
	return list
}

// over are all chords that are right for a bass pitch alone, in order.
func (r *realizer) over(f figured) [][]impl.Pitch {
	if chords, ok := r.chords[f]; ok {
		return chords
	}
	var chords [][]impl.Pitch
	tones := tonesOf(f.fifths, f.bass, f.figure)
	for _, tenor := range r.sung(1, tones) {
		for _, alto := range r.sung(2, tones) {
			for _, soprano := range r.sung(3, tones) {
				stack := []impl.Pitch{f.bass, tenor, alto, soprano}
				if stackFaultOf(stack) == 0 && spelling(stack) == spelling(tones) {
					chords = append(chords, stack)
				}
			}
		}
	}
	r.chords[f] = chords
	return chords
}

// realized is the first way for a line, found by trying one after the other; nil if there is none.
func (r *realizer) realized(line bassLine) [][]impl.Pitch {
	if len(line.bass) != len(line.figures) || len(line.bass) >= 9 {
		return nil
	}
	var way [][]impl.Pitch
	dead := map[[2]int]bool{}
	var goOn func() bool
	goOn = func() bool {
		at := len(way)
		if at == len(line.bass) {
			return true
		}
		for number, stack := range r.over(figured{line.fifths, line.bass[at], line.figures[at]}) {
			if dead[[2]int{at, number}] || at > 0 && moveFaultOf(way[at-1], stack) != 0 {
				continue
			}
			way = append(way, stack)
			if goOn() {
				return true
			}
			way = way[:at]
			dead[[2]int{at, number}] = true
		}
		return false
	}
	goOn()
	return way
}

// wrongs are the ways in which a chord of a line is not right, counted without the program.
func wrongs(line bassLine, list [][]impl.Pitch, at int) []string {
	var found []string
	stack, tones := list[at], tonesOf(line.fifths, line.bass[at], line.figures[at])
	has := func(list []impl.Pitch, p impl.Pitch) bool {
		return slices.ContainsFunc(list, func(other impl.Pitch) bool { return sameTone(other, p) })
	}
	if stackFaultOf(stack) != 0 {
		found = append(found, "own")
	}
	if at > 0 && moveFaultOf(list[at-1], stack) != 0 {
		found = append(found, "way")
	}
	if len(stack) == 0 || stack[0] != line.bass[at] {
		found = append(found, "bass")
	}
	if len(tones) == 0 {
		return append(found, "figure")
	}
	if slices.ContainsFunc(tones, func(p impl.Pitch) bool { return !has(stack, p) }) {
		found = append(found, "missing")
	}
	if slices.ContainsFunc(stack, func(p impl.Pitch) bool { return !has(tones, p) }) {
		found = append(found, "other")
	}
	return found
}

// wrongOf is the number of the first chord that is not right for a line, counted without the program.
func wrongOf(line bassLine, list [][]impl.Pitch) int {
	if line.fifths < -7 || line.fifths > 7 || len(list) >= 9 || len(line.bass) != len(list) || len(line.figures) != len(list) {
		return -1
	}
	for at := range list {
		if len(wrongs(line, list, at)) > 0 {
			return at
		}
	}
	return -1
}

// checkTones fails unless a figure, which may be invalid, has these tones.
func checkTones(t *testing.T, fifths int, bass impl.Pitch, figure int, want []impl.Pitch) {
	t.Helper()
	if tones := impl.FigureTones(fifths, bass, figure); !slices.Equal(tones, want) {
		t.Fatal(fifths, bass, figure, tones, want)
	}
}

// checkRealized fails unless a line, which may be invalid, has these chords, or none if there are none.
func checkRealized(t *testing.T, line bassLine, want [][]impl.Pitch) {
	t.Helper()
	list, ok := line.realize()
	if ok != (len(want) > 0) || !slices.EqualFunc(list, want, slices.Equal) {
		t.Fatal(line, list, ok, want)
	}
}

// checkObeys fails unless chords obey every rule for a line, by the program and without it.
func checkObeys(t *testing.T, line bassLine, list [][]impl.Pitch) {
	t.Helper()
	if len(list) != len(line.bass) || len(partsFaultsOf(list)) != 0 || len(impl.PartsFaults(list)) != 0 {
		t.Fatal(line, list, impl.PartsFaults(list))
	}
	for at, stack := range list {
		tones := impl.FigureTones(line.fifths, line.bass[at], line.figures[at])
		if len(tones) < 3 || stack[0] != line.bass[at] || spelling(stack) != spelling(tones) {
			t.Fatal(line, at, stack, tones)
		}
	}
	if wrong := line.faultIn(list); wrong != -1 || wrongOf(line, list) != -1 {
		t.Fatal(line, list, wrong)
	}
}

// checkWrong fails unless this is the first chord that is not right.
func checkWrong(t *testing.T, line bassLine, list [][]impl.Pitch, want int) {
	t.Helper()
	if wrong := line.faultIn(list); wrong != want {
		t.Fatal(line, list, wrong, want)
	}
}

// sungBasses are all valid pitches in the range of the lowest voice, with at most so many alterations.
func sungBasses(alters int) []impl.Pitch {
	return slices.DeleteFunc(allPitches(), func(p impl.Pitch) bool {
		return keyOf(p) < 28 || keyOf(p) > 48 || p.Alter < -alters || p.Alter > alters
	})
}

// keyBasses are those that are in a key.
func keyBasses(fifths int) []impl.Pitch {
	return slices.DeleteFunc(sungBasses(1), func(p impl.Pitch) bool { return p.Alter != orderedAlter(fifths, p.Step) })
}

// linesOfTwo are all lines of two bass pitches that are in a key.
func linesOfTwo(fifths int) []bassLine {
	var lines []bassLine
	for _, first := range keyBasses(fifths) {
		for _, second := range keyBasses(fifths) {
			for _, figure := range allFigures {
				for _, other := range allFigures {
					lines = append(lines, bassLine{fifths, []impl.Pitch{first, second}, []int{figure, other}})
				}
			}
		}
	}
	return lines
}

// repeatedC is a line of so many C3 with the figure 5.
func repeatedC(t *testing.T, count int) bassLine {
	t.Helper()
	return bassLine{0, slices.Repeat(pitchesOf(t, "C3"), count), slices.Repeat([]int{5}, count)}
}

// badFigures are no figures; some of them come back to one if they are doubled, or cut off.
func badFigures() []int {
	list := slices.Clone(farNumbers)
	for _, figure := range allFigures {
		list = append(list, -figure, figure+1<<8, figure+1<<16, figure+1<<32, figure-1<<32, figure+1<<62, figure-1<<62, math.MinInt+figure, math.MaxInt-figure)
	}
	for figure := -70; figure <= 70; figure++ {
		if figure < 4 || figure > 7 {
			list = append(list, figure)
		}
	}
	return list
}

// randomLines are lines of 1 to 8 bass pitches with at most so many alterations, always the same ones: most are in the key and near the one before, and some leap.
func randomLines(seed uint64, count int, alters int) []bassLine {
	source := rand.New(rand.NewPCG(13, seed))
	all := sungBasses(alters)
	var lines []bassLine
	for range count {
		line := bassLine{fifths: source.IntN(15) - 7}
		inKey := keyBasses(line.fifths)
		leaping, length := source.IntN(15), 1+source.IntN(8)
		for len(line.bass) < length {
			p := inKey[source.IntN(len(inKey))]
			if source.IntN(4) == 0 {
				p = all[source.IntN(len(all))]
			}
			if at := len(line.bass); at > 0 && leaping > 0 && max(keyOf(p)-keyOf(line.bass[at-1]), keyOf(line.bass[at-1])-keyOf(p)) > 12 {
				continue
			}
			line.bass = append(line.bass, p)
			line.figures = append(line.figures, allFigures[source.IntN(4)])
		}
		lines = append(lines, line)
	}
	return lines
}

func TestP67FiguresAreChordsOfKeys(t *testing.T) {
	without := 0
	for _, fifths := range validKeys() {
		for _, bass := range allPitches() {
			for _, figure := range allFigures {
				want := tonesOf(fifths, bass, figure)
				checkTones(t, fifths, bass, figure, want)
				if len(want) == 0 {
					without++
				}
			}
		}
	}
	if without != 15*5*(4+5+5+6) {
		t.Fatal(without)
	}
}

func TestP67TonesAreAboveTheBassAndInTheKey(t *testing.T) {
	for _, fifths := range validKeys() {
		for _, bass := range allPitches() {
			for _, figure := range allFigures {
				tones := impl.FigureTones(fifths, bass, figure)
				if len(tones) == 0 {
					continue
				}
				steps := stepsOfFigure[figure]
				if tones[0] != bass || len(tones) != 1+len(steps) {
					t.Fatal(fifths, bass, figure, tones)
				}
				for at, tone := range tones[1:] {
					if impl.PitchPlace(tone)-impl.PitchPlace(bass) != steps[at] || !impl.InKey(fifths, tone) {
						t.Fatal(fifths, bass, figure, tones)
					}
				}
			}
		}
	}
}

func TestP67FiguresByText(t *testing.T) {
	cases := []struct {
		fifths int
		bass   string
		figure int
		text   string
	}{
		{0, "E3", 6, "E3 G3 C4"},
		{1, "D3", 7, "D3 F#3 A3 C4"},
		{0, "C3", 5, "C3 E3 G3"},
		{0, "C3", 6, "C3 E3 A3"},
		{0, "C3", 4, "C3 F3 A3"},
		{0, "C3", 7, "C3 E3 G3 B3"},
		{0, "B3", 5, "B3 D4 F4"},
		{0, "B3", 7, "B3 D4 F4 A4"},
		{-3, "Bb3", 6, "Bb3 D4 G4"},
		{-3, "C3", 4, "C3 F3 Ab3"},
		{4, "E2", 5, "E2 G#2 B2"},
		{7, "B#2", 7, "B#2 D#3 F#3 A#3"},
		{-7, "Fb3", 4, "Fb3 Bb3 Db4"},
		{0, "F#3", 6, "F#3 A3 D4"}, // the bass keeps an alteration of its own
		{0, "Bb3", 5, "Bb3 D4 F4"},
		{7, "C3", 5, "C3 E#3 G#3"},
		{-7, "C3", 5, "C3 Eb3 Gb3"},
		{3, "Gbb4", 4, "Gbb4 C#5 E5"},
		{0, "Cb3", 7, "Cb3 E3 G3 B3"}, // a tone may have the key of the bass, an octave higher
		{-7, "B##2", 5, "B##2 Db3 Fb3"},
		{-7, "A##2", 6, "A##2 Cb3 Fb3"},
		{-2, "C0", 5, "C0 Eb0 G0"}, // the first octave and the last one
		{0, "Cbb0", 7, "Cbb0 E0 G0 B0"},
		{0, "C8", 7, "C8 E8 G8 B8"},
		{0, "D8", 5, "D8 F8 A8"},
		{0, "D8", 6, "D8 F8 B8"},
		{0, "D8", 4, "D8 G8 B8"},
		{0, "D8", 7, ""},
		{0, "E8", 5, "E8 G8 B8"},
		{0, "E8", 6, ""},
		{0, "E8", 4, ""},
		{0, "F8", 5, ""},
		{0, "B8", 5, ""},
		{7, "B##8", 7, ""},
		{0, "A7", 7, "A7 C8 E8 G8"},
		{0, "E3", 3, ""},
		{0, "E3", 0, ""},
		{0, "E3", 8, ""},
		{0, "E3", 2, ""},
		{0, "E3", -5, ""},
		{8, "E3", 5, ""},
		{-8, "E3", 5, ""},
	}
	for _, c := range cases {
		if tones := impl.FigureTones(c.fifths, readPitch(t, c.bass), c.figure); pitchesText(tones) != c.text {
			t.Fatal(c, pitchesText(tones))
		}
	}
}

func TestP67OtherFiguresHaveNoTones(t *testing.T) {
	for _, figure := range badFigures() {
		for _, fifths := range validKeys() {
			for _, bass := range pitchesOf(t, "Cbb0 C3 E3 F#3 Bb4 B##8") {
				checkTones(t, fifths, bass, figure, nil)
			}
		}
	}
}

func TestP67OtherKeysHaveNoTones(t *testing.T) {
	for _, fifths := range badKeys() {
		for _, figure := range append([]int{0, 3, 8}, allFigures...) {
			for _, bass := range pitchesOf(t, "Cbb0 C3 E3 F#3 Bb4 B##8") {
				checkTones(t, fifths, bass, figure, nil)
			}
		}
	}
}

func TestP67OtherPitchesHaveNoTones(t *testing.T) {
	for _, bass := range badPitches() {
		for _, fifths := range []int{-7, 0, 7} {
			for _, figure := range allFigures {
				checkTones(t, fifths, bass, figure, nil)
			}
		}
	}
}

func TestP67TonesAreNewMemory(t *testing.T) {
	for _, fifths := range validKeys() {
		for _, bass := range sungBasses(2) {
			for _, figure := range allFigures {
				first, second := impl.FigureTones(fifths, bass, figure), impl.FigureTones(fifths, bass, figure)
				all := first[:cap(first)]
				for at := range all {
					all[at] = impl.Pitch{Step: -1}
				}
				want := tonesOf(fifths, bass, figure)
				if !slices.Equal(second, want) {
					t.Fatal(second, want)
				}
				checkTones(t, fifths, bass, figure, want)
			}
		}
	}
}

// TestP4EveryPitchAlone tries all figures on all pitches that the lowest voice can have, and around its range. With at most one alteration no three tones have a key twice, so that their keys alone decide.
func TestP4EveryPitchAlone(t *testing.T) {
	model := newRealizer()
	for _, fifths := range validKeys() {
		for _, bass := range allPitches() {
			if bass.Octave < 1 || bass.Octave > 5 || bass.Alter < -1 || bass.Alter > 1 {
				continue
			}
			for _, figure := range allFigures {
				line := bassLine{fifths, []impl.Pitch{bass}, []int{figure}}
				want := model.realized(line)
				checkRealized(t, line, want)
				if sung := keyOf(bass) >= 28 && keyOf(bass) <= 48; sung != (len(want) > 0) {
					t.Fatal(line, want)
				}
			}
		}
	}
}

// TestP4EveryPitchObeys tries all figures on all valid pitches, those with two alterations as well.
func TestP4EveryPitchObeys(t *testing.T) {
	for _, fifths := range validKeys() {
		for _, bass := range allPitches() {
			for _, figure := range allFigures {
				line := bassLine{fifths, []impl.Pitch{bass}, []int{figure}}
				list, ok := line.realize()
				if sung := keyOf(bass) >= 28 && keyOf(bass) <= 48; sung != ok {
					t.Fatal(line, ok)
				}
				if ok {
					checkObeys(t, line, list)
				} else if len(list) != 0 {
					t.Fatal(line, list)
				}
			}
		}
	}
}

func TestP4BassesByText(t *testing.T) {
	cases := []struct {
		fifths int
		line   string
		want   string
	}{
		{0, "C3:5", "C3 C3 G3 E4"},
		{0, "C3:5 C3:5", "C3 C3 G3 E4|C3 C3 G3 E4"},
		{0, "E2:5", "E2 E3 B3 G4"}, // both ends of the range, spelled in all ways
		{0, "Fb2:5", "Fb2 C3 A3 C4"},
		{0, "D##2:5", "D##2 D##3 A3 F4"},
		{0, "C4:5", "C4 C4 E4 G4"},
		{0, "B#3:5", "B#3 B#3 D4 F4"},
		{0, "Dbb4:5", "Dbb4 Dbb4 F4 A4"},
		{0, "Eb2:5", ""},
		{0, "D#2:5", ""},
		{0, "Fbb2:5", ""},
		{0, "C#4:5", ""},
		{0, "Db4:5", ""},
		{0, "B##3:5", ""},
		{0, "C6:5", ""},
		{0, "C0:5", ""},
		{0, "C8:7", ""},
		{0, "B8:7", ""},
		// All four tones are there, and of two with the same key both.
		{1, "D3:7", "D3 F#3 A3 C4"},
		{0, "Cb3:7", "Cb3 E3 B3 G4"},
		{-2, "Gbb3:7", "Gbb3 F3 Bb3 D4"},
		{-7, "E##2:7", "E##2 Db3 Bb3 Gb4"},
		// Of two tones with the same key the bass comes first.
		{-7, "B##2:5", "B##2 B##2 Db4 Fb4"},
		{-7, "B##2:6", "B##2 B##2 Db4 Gb4"},
		{-7, "E##3:5", "E##3 E##3 Bb3 Gb4"},
		{-7, "D##2:5", "D##2 D##3 Ab3 Fb4"},
		{-4, "B##2:6", "B##2 B##2 G3 Db4"},
		{5, "Cbb4:4", "Cbb4 Cbb4 A#3 F#4"},
		{4, "Fbb3:6", "Fbb3 Fbb3 A3 D#4"},
		// A later chord is taken, because the first one leaves no way: to the next chord, and to the one behind it.
		{0, "C3:4", "C3 C3 A3 F4"},
		{0, "C3:4 C4:4", "C3 F3 A3 C4|C4 C4 F4 A4"},
		{0, "D3:7", "D3 F3 A3 C4"},
		{0, "D3:7 C4:7", "D3 F3 C4 A4|C4 E4 G4 B4"},
		{-3, "D3:5 G2:5 Eb3:7", "D3 D3 Ab3 F4|G2 D3 Bb3 D4|Eb3 G3 Bb3 D4"},
		{-3, "D3:5 G2:5 Eb3:7 C4:7", "D3 D3 Ab3 F4|G2 D3 Bb3 G4|Eb3 G3 D4 Bb4|C4 Eb4 G4 Bb4"},
		// Each is possible alone, and the bass leaps too far: at the first, at a middle and at the last place.
		{0, "E2:5 F3:5", ""},
		{0, "E2:5 E3:5", "E2 E3 B3 G4|E3 E3 B3 G4"},
		{0, "E2:5 C4:5", ""},
		{0, "C4:5 E2:5 E2:5 E2:5", ""},
		{0, "C3:5 E2:5 C4:5 C3:5", ""},
		{0, "C3:5 C3:5 C4:5 E2:5", ""},
	}
	model := newRealizer()
	for _, c := range cases {
		line := lineOf(t, c.fifths, c.line)
		want := [][]impl.Pitch(nil)
		if c.want != "" {
			want = stacksOf(t, c.want)
			checkObeys(t, line, want)
		}
		if found := model.realized(line); !slices.EqualFunc(found, want, slices.Equal) {
			t.Fatal(c, found)
		}
		checkRealized(t, line, want)
	}
}

// TestP4EveryTwoInAKey tries all pairs of bass pitches in a key with all their figures.
func TestP4EveryTwoInAKey(t *testing.T) {
	model := newRealizer()
	for _, fifths := range []int{-4, 0, 3} {
		for _, line := range linesOfTwo(fifths) {
			checkRealized(t, line, model.realized(line))
		}
	}
}

func TestP4RandomBasses(t *testing.T) {
	model := newRealizer()
	counts := map[bool]int{}
	for _, line := range randomLines(4, 3000, 1) {
		want := model.realized(line)
		checkRealized(t, line, want)
		counts[len(want) > 0]++
	}
	if counts[true] < 1000 || counts[false] < 40 {
		t.Fatal(counts)
	}
}

func TestP4RandomBassesObey(t *testing.T) {
	lengths := map[int]int{}
	for _, line := range randomLines(40, 8000, 2) {
		list, ok := line.realize()
		if ok {
			checkObeys(t, line, list)
			lengths[len(list)]++
		} else if len(list) != 0 {
			t.Fatal(line, list)
		}
	}
	for length := 1; length <= 8; length++ {
		if lengths[length] < 100 {
			t.Fatal(lengths)
		}
	}
}

// TestP4NoWayAnywhere puts a leap of the bass at every place of lines of all lengths.
func TestP4NoWayAnywhere(t *testing.T) {
	for length := 2; length <= 8; length++ {
		for at := 1; at < length; at++ {
			for _, c := range [][2]string{{"E2", "F3"}, {"C4", "B2"}, {"E2", "C4"}, {"C4", "E2"}} {
				line := bassLine{0, slices.Concat(slices.Repeat(pitchesOf(t, c[0]), at), slices.Repeat(pitchesOf(t, c[1]), length-at)), slices.Repeat([]int{5}, length)}
				checkRealized(t, line, nil)
				for _, half := range []bassLine{line.part(0, at), line.part(at, length)} {
					if list, ok := half.realize(); !ok {
						t.Fatal(half, list)
					}
				}
			}
		}
	}
}

// TestP4NoWayIsFoundSoon leaves no way at the end, behind chords of which there are so many ways that they cannot all be tried.
func TestP4NoWayIsFoundSoon(t *testing.T) {
	model := newRealizer()
	for _, bass := range pitchesOf(t, "A2 C3 D3 E3") {
		for _, figure := range []int{4, 5, 6} {
			if len(model.over(figured{0, bass, figure})) < 15 {
				t.Fatal(bass, figure)
			}
			line := bassLine{0, append(slices.Repeat([]impl.Pitch{bass}, 6), pitchesOf(t, "E2 C4")...), slices.Repeat([]int{figure}, 8)}
			checkRealized(t, line, nil)
			if _, ok := line.part(0, 7).realize(); !ok {
				t.Fatal(line)
			}
			// And with a chord that is not possible at all.
			line.bass[7] = impl.Pitch{Octave: 6}
			checkRealized(t, line, nil)
			line.bass[7], line.figures[7] = bass, 3
			checkRealized(t, line, nil)
		}
	}
}

func TestP4EightPitchesAreTheMost(t *testing.T) {
	for _, text := range []string{"C3", "E2", "C4", "F#3"} {
		bass, figures := slices.Repeat(pitchesOf(t, text), 1<<16+8), slices.Repeat([]int{5}, 1<<16+8)
		alone, _ := impl.RealizeBass(0, bass[:1], figures[:1])
		for _, count := range []int{1, 2, 3, 4, 5, 6, 7, 8, 9, 10, 16, 17, 60, 256, 256 + 8, 1 << 16, 1<<16 + 8} {
			line := bassLine{0, bass[:count], figures[:count]}
			want := slices.Repeat(alone, count)
			if count > 8 {
				want = nil
			}
			checkRealized(t, line, want)
		}
	}
}

func TestP4NoPitchesHaveNoChords(t *testing.T) {
	for _, line := range []bassLine{{0, nil, nil}, {0, []impl.Pitch{}, []int{}}, {0, nil, []int{}}, {8, nil, nil}, {math.MinInt, []impl.Pitch{}, nil}} {
		checkRealized(t, line, nil)
	}
}

func TestP4OtherLengthsHaveNoChords(t *testing.T) {
	bass, figures := slices.Repeat(pitchesOf(t, "C3"), 300), slices.Repeat([]int{5}, 300)
	counts := []int{0, 1, 2, 7, 8, 9, 256, 257, 264}
	for _, pitches := range counts {
		for _, numbers := range counts {
			if pitches != numbers {
				checkRealized(t, bassLine{0, bass[:pitches], figures[:numbers]}, nil)
			}
		}
	}
	checkRealized(t, bassLine{0, bass[:1], nil}, nil)
	checkRealized(t, bassLine{0, nil, figures[:1]}, nil)
}

func TestP4OtherKeysHaveNoChords(t *testing.T) {
	for _, fifths := range badKeys() {
		for _, text := range []string{"C3:5", "C3:7 F3:4", "C3:5 C3:5 C3:5 C3:5 C3:5 C3:5 C3:5 C3:5"} {
			line := lineOf(t, fifths, text)
			checkRealized(t, line, nil)
		}
	}
}

func TestP4OtherFiguresHaveNoChords(t *testing.T) {
	for _, figure := range badFigures() {
		for count := 1; count <= 8; count++ {
			for _, at := range []int{0, count / 2, count - 1} {
				line := repeatedC(t, count)
				line.figures[at] = figure
				checkRealized(t, line, nil)
			}
		}
	}
}

func TestP4OtherPitchesHaveNoChords(t *testing.T) {
	for _, bad := range badPitches() {
		for _, count := range []int{1, 3} {
			for at := range count {
				line := repeatedC(t, count)
				line.bass[at] = bad
				checkRealized(t, line, nil)
			}
		}
	}
}

func TestP4BassesAreOnlyRead(t *testing.T) {
	lines := append(randomLines(41, 300, 2), bassLine{0, nil, nil}, bassLine{0, []impl.Pitch{{Step: 7}}, []int{5}}, bassLine{8, pitchesOf(t, "C3"), []int{5}})
	for _, line := range lines {
		bass, checkBass := lendPitches(line.bass)
		figures, checkFigures := lendDegrees(line.figures)
		want, _ := line.realize()
		checkRealized(t, bassLine{line.fifths, bass, figures}, want)
		checkBass(t)
		checkFigures(t)
	}
}

// TestP4ChordsAreNewMemory writes to each chord of a result, as far as its memory reaches.
func TestP4ChordsAreNewMemory(t *testing.T) {
	lines := append(randomLines(42, 300, 2), lineOf(t, 0, "C3:5 C3:5 C3:5 C3:5"), lineOf(t, 0, "C3:5 F3:5 C3:5 F3:5"))
	for _, line := range lines {
		bass, checkBass := lendPitches(line.bass)
		figures, checkFigures := lendDegrees(line.figures)
		lentLine := bassLine{line.fifths, bass, figures}
		first, _ := lentLine.realize()
		second, _ := lentLine.realize()
		want := make([][]impl.Pitch, len(first))
		for at := range first {
			want[at] = slices.Clone(first[at])
		}
		for at := range first {
			all := first[at][:cap(first[at])]
			for number := range all {
				all[number] = impl.Pitch{Step: -1}
			}
			if !slices.EqualFunc(first[at+1:], want[at+1:], slices.Equal) || !slices.EqualFunc(second, want, slices.Equal) {
				t.Fatal(line, at, first, second, want)
			}
		}
		outer := first[:cap(first)]
		for at := range outer {
			outer[at] = nil
		}
		if !slices.EqualFunc(second, want, slices.Equal) {
			t.Fatal(line, second, want)
		}
		checkRealized(t, lentLine, want)
		checkBass(t)
		checkFigures(t)
	}
}

// TestP68ChordsThatAreWrongInOneWay has chords of which one is not right, and that in one way alone.
func TestP68ChordsThatAreWrongInOneWay(t *testing.T) {
	cases := []struct {
		fifths int
		line   string
		list   string
		at     int
		way    string
	}{
		{0, "C3:5 F3:5 G3:5 C3:5", "C3 G3 E4 C5|F3 A3 F4 C5|G3 G3 D4 B4|C3 G3 E4 C5", -1, ""},
		{0, "C4:5", "C4 C4 E4 G4", -1, ""}, // two voices with the same key, and three, and two twice
		{0, "C4:5", "C4 E4 E4 G4", -1, ""},
		{0, "C4:5", "C4 E4 G4 G4", -1, ""},
		{0, "Cb4:7", "Cb4 B3 E4 G4", -1, ""},
		{-7, "B##2:5", "B##2 Db3 Db4 Fb4", -1, ""},
		{-7, "B##2:5", "B##2 B##2 Db4 Fb4", -1, ""},
		{-7, "B##2:5", "B##2 B##2 B##3 Fb4", 0, "missing"}, // a tone with the same key does not stand for another one
		{-7, "B##2:5", "B##2 B##2 C#4 Fb4", 0, "missing other"},
		{0, "C3:5", "C3 C4 G3 E4", 0, "own"},
		{0, "C3:5", "C3 C3 G3 G4", 0, "missing"},
		{0, "C3:5", "C3 C3 E4 G4", 0, "own"},
		{0, "C3:5", "C3 G3 E4 C5 C5", 0, "own"},
		{0, "C3:5", "C3 G3 E4", 0, "own"},
		{0, "C3:5", "", 0, "own bass missing"},
		{0, "Eb2:5", "Eb2 Eb3 B3 G4", 0, "own"},
		{0, "E2:5", "E2 E3 B3 G4", -1, ""},
		{-3, "Eb2:5", "Eb2 Eb3 Bb3 G4", 0, "own"}, // below the range
		{-3, "Db4:5", "Db4 F4 Ab4 Db5", 0, "own"}, // and above
		{0, "C3:5 D3:5", "C3 C3 G3 E4|D3 D3 A3 F4", 1, "way"},
		{0, "C3:5 D3:5", "C3 G3 E4 C5|D3 A3 F4 D5", 1, "way"},
		{0, "E2:5 C4:5", "E2 B2 G3 E4|C4 C4 E4 G4", 0, "own"},
		{0, "E2:5 C4:5", "E2 E3 B3 G4|C4 C4 E4 G4", 1, "way"},
		{0, "C3:5 C3:5 C3:5", "C3 C3 G3 E4|C3 G3 C4 E4|C3 C3 G3 E4", -1, ""},
		{0, "C3:5 C3:5 C3:5", "C3 C3 G3 E4|C3 C3 G3 E4|C3 G3 E4 G5", 2, "own way"},
		{0, "C3:5 C3:5 C3:5", "C3 C3 G3 E4|C3 C3 G3 E4|C3 G3 G4 E5", -1, ""},
		{0, "C3:5 C3:5", "C3 E3 G3 C4|C3 C4 G4 E5", 1, "way"}, // a leap
		{0, "C3:5 C4:5", "C3 C3 G3 E4|C3 C3 G3 E4", 1, "bass"},
		{0, "C3:5", "C4 C4 E4 G4", 0, "bass"},
		{0, "G3:5", "D3 G3 B3 D4", 0, "bass"},         // a tone of the chord, but not the bass
		{-7, "B##2:5", "Db3 B##2 Db4 Fb4", 0, "bass"}, // and one with the key of the bass
		{0, "B#2:5", "C3 B#2 D4 F4", 0, "own bass other"},
		{0, "B#2:5", "B#2 B#2 D4 F4", 0, "own"},
		{0, "B#2:5", "B#2 F3 D4 F4", -1, ""},
		{0, "B#2:5", "C3 F3 D4 B#4", 0, "bass other"}, // its key alone is not the bass
		{0, "C3:3", "C3 C3 G3 E4", 0, "figure"},
		{0, "C3:5 C3:0", "C3 C3 G3 E4|C3 C3 G3 E4", 1, "figure"},
		{0, "C3:-5 C3:5", "C3 C3 G3 E4|C3 C3 G3 E4", 0, "figure"},
		{0, "B8:7", "C3 C3 G3 E4", 0, "bass figure"},
		{0, "C3:6", "C3 C3 G3 E4", 0, "missing other"},
		{0, "E3:5", "C3 C3 G3 E4", 0, "bass missing other"},
		{0, "C3:7", "C3 C3 G3 E4", 0, "missing"},
		{0, "C3:5", "C3 G3 E4 B4", 0, "other"},
		{0, "C3:5", "C3 G3 E4 D5", 0, "other"},
		{0, "C3:5", "C3 G3 E4 B#4", 0, "other"}, // keys alone do not matter
		{0, "C3:5", "C3 G3 Fb4 C5", 0, "missing other"},
		{0, "C3:5", "C3 G3 Fb4 E4", 0, "other"},
		{0, "C3:5", "C3 G3 Eb4 C5", 0, "missing other"},
		{-3, "C3:5", "C3 G3 Eb4 C5", -1, ""},
		{0, "D3:7", "D3 F3 A3 C4", -1, ""},
		{0, "D3:7", "D3 F3 A3 D4", 0, "missing"},
		{1, "D3:7", "D3 F3 A3 C4", 0, "missing other"},
	}
	for _, c := range cases {
		line, list := lineOf(t, c.fifths, c.line), stacksOf(t, c.list)
		if c.at >= 0 {
			if ways := strings.Join(wrongs(line, list, c.at), " "); ways != c.way {
				t.Fatal(c, ways)
			}
		}
		checkWrong(t, line, list, c.at)
	}
}

// TestP68WrongChordsAtEveryPlace puts each of several chords that are not right at each place among right ones.
func TestP68WrongChordsAtEveryPlace(t *testing.T) {
	good := stacksOf(t, "C3 C3 G3 E4")[0]
	for length := 1; length <= 8; length++ {
		line := repeatedC(t, length)
		for at := range length {
			for _, bad := range stacksOf(t, "C3 C4 G3 E4|C3 C3 E4 G4|C3 C3 G3|C3 C3 G3 E4 E4||C4 C4 E4 G4|C3 C3 G3 G4|C3 G3 E4 B4|C3 G3 E4 C6|D3 D3 A3 F4") {
				list := slices.Repeat([][]impl.Pitch{good}, length)
				list[at] = bad
				checkWrong(t, line, list, at)
				if at+2 < length {
					list[at+2] = nil // a later one does not count
					checkWrong(t, line, list, at)
				}
			}
			list := slices.Repeat([][]impl.Pitch{good}, length)
			other := bassLine{0, slices.Clone(line.bass), slices.Clone(line.figures)}
			other.bass[at].Octave = 4
			checkWrong(t, other, list, at)
			other = bassLine{0, line.bass, slices.Clone(line.figures)}
			for _, figure := range []int{4, 6, 7, 3, 0, -5} {
				other.figures[at] = figure
				checkWrong(t, other, list, at)
			}
		}
	}
}

// spoiled is a line with its chords, of which something is changed at one place.
func spoiled(source *rand.Rand, line bassLine, list [][]impl.Pitch, spelled map[int][]impl.Pitch) (bassLine, [][]impl.Pitch) {
	line = bassLine{line.fifths, slices.Clone(line.bass), slices.Clone(line.figures)}
	list = slices.Clone(list)
	at, voice := source.IntN(len(list)), source.IntN(4)
	if !fourAreValid(list[at]) {
		return line, list
	}
	list[at] = slices.Clone(list[at])
	switch source.IntN(9) {
	case 0:
		list[at][voice].Octave += 2*source.IntN(2) - 1
	case 1:
		ways := spelled[keyOf(list[at][voice])]
		list[at][voice] = ways[source.IntN(len(ways))]
	case 2:
		// Another tone of the chord, or the same one.
		octave := list[at][voice].Octave
		list[at][voice] = list[at][source.IntN(4)]
		list[at][voice].Octave = octave
	case 3:
		list[at] = slices.Delete(list[at], voice, voice+1)
	case 4:
		list[at] = slices.Insert(list[at], voice, list[at][voice])
	case 5:
		list[at], list[0] = list[0], list[at]
	case 6:
		line.figures[at] = 2 + source.IntN(8)
	case 7:
		basses := sungBasses(2)
		line.bass[at] = basses[source.IntN(len(basses))]
	case 8:
		list[at][voice].Alter = source.IntN(5) - 2
	}
	return line, list
}

// TestP68RandomChords changes chords that are right, once or several times.
func TestP68RandomChords(t *testing.T) {
	source := rand.New(rand.NewPCG(13, 68))
	spelled, counts := spelledKeys(), map[int]int{}
	for _, right := range randomLines(68, 3000, 2) {
		realized, ok := right.realize()
		if !ok {
			continue
		}
		for round := range 5 {
			line, list := right, realized
			for range 1 + round/3 {
				line, list = spoiled(source, line, list, spelled)
			}
			want := wrongOf(line, list)
			counts[want]++
			checkFirstWrong(t, line, list, want)
		}
	}
	for at := -1; at < 8; at++ {
		if counts[at] < 100 {
			t.Fatal(counts)
		}
	}
}

// checkFirstWrong fails unless before the chord with a number nothing is wrong, and with it something is, whatever follows.
func checkFirstWrong(t *testing.T, line bassLine, list [][]impl.Pitch, wrong int) {
	t.Helper()
	right := wrong
	if wrong < 0 {
		right = len(list)
	}
	for count := range len(list) + 1 {
		want := -1
		if count > right {
			want = wrong
		}
		checkWrong(t, line.part(0, count), list[:count], want)
	}
}

// TestP68EveryChordOverAPitch holds all chords that are right for a pitch and a figure against the other figures.
func TestP68EveryChordOverAPitch(t *testing.T) {
	model := newRealizer()
	for _, fifths := range []int{-7, -2, 0, 1, 5} {
		for _, bass := range sungBasses(2) {
			for _, figure := range allFigures {
				for _, stack := range model.over(figured{fifths, bass, figure}) {
					for _, other := range []int{3, 4, 5, 6, 7, 8} {
						line, list := bassLine{fifths, []impl.Pitch{bass}, []int{other}}, [][]impl.Pitch{stack}
						want := 0
						if other == figure {
							want = -1
						}
						checkWrong(t, line, list, want)
					}
				}
			}
		}
	}
}

func TestP68NothingIsWrong(t *testing.T) {
	checkWrong(t, bassLine{0, nil, nil}, nil, -1)
	checkWrong(t, bassLine{0, []impl.Pitch{}, []int{}}, [][]impl.Pitch{}, -1)
	checkWrong(t, bassLine{7, nil, []int{}}, nil, -1)
}

// TestP68OtherArgumentsHaveNoFault has chords that would be wrong at once.
func TestP68OtherArgumentsHaveNoFault(t *testing.T) {
	for _, fifths := range badKeys() {
		checkWrong(t, lineOf(t, fifths, "C3:5"), stacksOf(t, "C3 C3 G3 E4"), -1)
		checkWrong(t, lineOf(t, fifths, "C3:3 C3:5"), stacksOf(t, "C3|D3"), -1)
	}
	bass, figures, list := slices.Repeat(pitchesOf(t, "C3"), 300), slices.Repeat([]int{5}, 300), make([][]impl.Pitch, 300)
	counts := []int{0, 1, 2, 7, 8, 9, 10, 256, 257, 264}
	for _, pitches := range counts {
		for _, numbers := range counts {
			for _, stacks := range counts {
				want := -1
				if pitches == numbers && numbers == stacks && stacks > 0 && stacks < 9 {
					want = 0
				}
				checkWrong(t, bassLine{0, bass[:pitches], figures[:numbers]}, list[:stacks], want)
			}
		}
	}
}

func TestP68EightChordsAreTheMost(t *testing.T) {
	bass, figures, list := slices.Repeat(pitchesOf(t, "C3"), 20), slices.Repeat([]int{5}, 20), slices.Repeat(stacksOf(t, "C3 C3 G3 E4"), 20)
	for count := 1; count < 20; count++ {
		line, want := bassLine{0, bass[:count], slices.Clone(figures[:count])}, count-1
		checkWrong(t, line, list[:count], -1)
		line.figures[count-1] = 6
		if count > 8 {
			want = -1
		}
		checkWrong(t, line, list[:count], want)
	}
}

func TestP68OtherFiguresAreWrong(t *testing.T) {
	for _, figure := range badFigures() {
		for at := range 3 {
			line := lineOf(t, 0, "C3:5 C3:5 C3:5")
			line.figures[at] = figure
			checkWrong(t, line, stacksOf(t, "C3 C3 G3 E4|C3 C3 G3 E4|C3 C3 G3 E4"), at)
		}
	}
}

func TestP68OtherPitchesAreWrong(t *testing.T) {
	for _, bad := range badPitches() {
		for at := range 3 {
			line, list := lineOf(t, 0, "C3:5 C3:5 C3:5"), stacksOf(t, "C3 C3 G3 E4|C3 C3 G3 E4|C3 C3 G3 E4")
			line.bass[at] = bad
			checkWrong(t, line, list, at)
			list[at][0] = bad
			checkWrong(t, line, list, at)
			for voice := range 4 {
				list := stacksOf(t, "C3 C3 G3 E4|C3 C3 G3 E4|C3 C3 G3 E4")
				list[at][voice] = bad
				checkWrong(t, lineOf(t, 0, "C3:5 C3:5 C3:5"), list, at)
			}
		}
	}
}

func TestP68ChordsAreOnlyRead(t *testing.T) {
	source, spelled := rand.New(rand.NewPCG(13, 680)), spelledKeys()
	for _, right := range randomLines(69, 300, 2) {
		realized, ok := right.realize()
		if !ok {
			continue
		}
		spoiledLine, spoiledList := spoiled(source, right, realized, spelled)
		for _, c := range []struct {
			line bassLine
			list [][]impl.Pitch
		}{{right, realized}, {spoiledLine, spoiledList}} {
			bass, checkBass := lendPitches(c.line.bass)
			figures, checkFigures := lendDegrees(c.line.figures)
			list, checkList := lendParts(c.list)
			checkWrong(t, bassLine{c.line.fifths, bass, figures}, list, wrongOf(c.line, c.list))
			checkBass(t)
			checkFigures(t)
			checkList(t)
		}
	}
}

// checkNotBefore fails if the keys of a chord come before those of the chord that is first alone. It returns whether they come behind.
func checkNotBefore(t *testing.T, stack []impl.Pitch, alone []impl.Pitch) bool {
	t.Helper()
	order := slices.Compare(keysIn(stack), keysIn(alone))
	if order < 0 || order == 0 && !slices.Equal(stack, alone) {
		t.Fatal(stack, alone)
	}
	return order > 0
}

// TestP127OneBassIsRealizedAlone holds the chords of random basses against those of their beginnings. With at most one alteration keys alone decide.
func TestP127OneBassIsRealizedAlone(t *testing.T) {
	behind, without := 0, 0
	for _, line := range randomLines(127, 4000, 1) {
		list, ok := line.realize()
		alone, okAlone := line.part(0, 1).realize()
		if !okAlone {
			t.Fatal(line)
		}
		if !ok {
			without++
			continue
		}
		if checkNotBefore(t, list[0], alone[0]) {
			behind++
		}
		for count := 2; count < len(list); count++ {
			part, okPart := line.part(0, count).realize()
			if !okPart || slices.Compare(keysIn(slices.Concat(list[:count]...)), keysIn(slices.Concat(part...))) < 0 {
				t.Fatal(line, count, list, part)
			}
		}
	}
	if behind < 20 || without < 40 {
		t.Fatal(behind, without)
	}
}

// TestP127EveryTwo tries all pairs of bass pitches in the key of C with all their figures.
func TestP127EveryTwo(t *testing.T) {
	behind, count := 0, 0
	for _, line := range linesOfTwo(0) {
		list, ok := line.realize()
		if !ok {
			continue
		}
		alone, okAlone := line.part(0, 1).realize()
		if !okAlone {
			t.Fatal(line)
		}
		count++
		if checkNotBefore(t, list[0], alone[0]) {
			behind++
		}
	}
	// In all of them the bass leaps by an octave at most; in a few the first chord alone leaves no way.
	if behind != 56 || count != 2224 {
		t.Fatal(behind, count)
	}
}

func TestP127WithoutAFirstChordThereIsNone(t *testing.T) {
	for _, first := range []string{"D#2:5", "C#4:5", "C6:7", "C3:3", "C3:0", "B8:6"} {
		for _, rest := range []string{"", " C3:5", " C3:5 F3:6 G3:7"} {
			checkRealized(t, lineOf(t, 0, first), nil)
			checkRealized(t, lineOf(t, 0, first+rest), nil)
		}
	}
}
