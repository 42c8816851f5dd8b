package tests

import (
	"math/rand/v2"
	"slices"
	"strconv"
	"strings"
	"testing"

	"loop.example/musicengine/impl"
)

// lineFaultsByName are the codes, as the texts of cases write them.
var lineFaultsByName = map[string]int{
	"key": impl.LineKey, "far": impl.LineFar, "dissonant": impl.LineDissonant, "ends": impl.LineEnds,
	"repeat": impl.LineRepeat, "leap": impl.LineLeap, "parallel": impl.LineParallel,
}

// overCantus is a line over a cantus in a key; all of them may be invalid.
type overCantus struct {
	fifths int
	cantus []impl.Pitch
	line   []impl.Pitch
}

// faults calls the program.
func (o overCantus) faults() []impl.Fault {
	return impl.LineFaults(o.fifths, o.cantus, o.line)
}

// good calls the program.
func (o overCantus) good() bool {
	return impl.LineGood(o.fifths, o.cantus, o.line)
}

// first is the beginning of both.
func (o overCantus) first(count int) overCantus {
	return overCantus{o.fifths, o.cantus[:count], o.line[:count]}
}

// withTone is the same with another tone of the line.
func (o overCantus) withTone(at int, p impl.Pitch) overCantus {
	line := slices.Clone(o.line)
	line[at] = p
	return overCantus{o.fifths, o.cantus, line}
}

// overOf reads a cantus and a line.
func overOf(t *testing.T, fifths int, cantus string, line string) overCantus {
	t.Helper()
	return overCantus{fifths, pitchesOf(t, cantus), pitchesOf(t, line)}
}

// lineFaultsIn reads faults: the number of the tone, a colon and the name for each; spaces divide them.
func lineFaultsIn(t *testing.T, text string) []impl.Fault {
	t.Helper()
	var faults []impl.Fault
	for _, word := range strings.Fields(text) {
		digits, name, _ := strings.Cut(word, ":")
		at, err := strconv.Atoi(digits)
		code, ok := lineFaultsByName[name]
		if err != nil || !ok {
			t.Fatal(text)
		}
		faults = append(faults, impl.Fault{At: at, Code: code})
	}
	return faults
}

// isInKey tells whether a pitch, which may be invalid, is in a key, which may be invalid, counted without the program.
func isInKey(fifths int, p impl.Pitch) bool {
	return fifths > -8 && fifths < 8 && pitchIsValid(p) && p.Alter == orderedAlter(fifths, p.Step)
}

// cantusIsValid tells what is valid as chapter 14 says it, counted without the program.
func cantusIsValid(fifths int, cantus []impl.Pitch) bool {
	return len(cantus) > 1 && len(cantus) < 11 && !slices.ContainsFunc(cantus, func(p impl.Pitch) bool { return !isInKey(fifths, p) })
}

// isValid tells whether the line has as many valid pitches as the valid cantus.
func (o overCantus) isValid() bool {
	return cantusIsValid(o.fifths, o.cantus) && len(o.line) == len(o.cantus) && !slices.ContainsFunc(o.line, func(p impl.Pitch) bool { return !pitchIsValid(p) })
}

// toneFaults are all faults of a tone over the cantus, in the chapter's order, of which the first one counts.
func (o overCantus) toneFaults(at int) []int {
	var found []int
	low, high := keyOf(o.cantus[at]), keyOf(o.line[at])
	up := upwards(low, high)
	if !isInKey(o.fifths, o.line[at]) {
		found = append(found, impl.LineKey)
	}
	if high < low || high >= low+17 {
		found = append(found, impl.LineFar)
	}
	if !slices.Contains([]int{0, 3, 4, 7, 8, 9}, up) {
		found = append(found, impl.LineDissonant)
	}
	if at == 0 && up != 0 && up != 7 || at+1 == len(o.line) && up != 0 {
		found = append(found, impl.LineEnds)
	}
	return found
}

// stepFaults are all faults of the step from the tone before, in the chapter's order, of which the first one counts; the first tone has none.
func (o overCantus) stepFaults(at int) []int {
	var found []int
	if at == 0 {
		return nil
	}
	before, after := keyOf(o.line[at-1]), keyOf(o.line[at])
	if before == after {
		found = append(found, impl.LineRepeat)
	}
	if max(before, after) >= min(before, after)+10 {
		found = append(found, impl.LineLeap)
	}
	for _, halves := range []int{0, 7} {
		if upwards(keyOf(o.cantus[at-1]), before) == halves && upwards(keyOf(o.cantus[at]), after) == halves {
			found = append(found, impl.LineParallel)
		}
	}
	return found
}

// wantedFaults are the faults of a line, counted without the program.
func (o overCantus) wantedFaults() []impl.Fault {
	var faults []impl.Fault
	if !o.isValid() {
		return nil
	}
	for at := range o.line {
		for _, codes := range [][]int{o.toneFaults(at), o.stepFaults(at)} {
			if len(codes) > 0 {
				faults = append(faults, impl.Fault{At: at, Code: codes[0]})
			}
		}
	}
	return faults
}

// checkCantus fails unless a cantus, which may be invalid, is valid or not.
func checkCantus(t *testing.T, fifths int, cantus []impl.Pitch, want bool) {
	t.Helper()
	if valid := impl.CantusValid(fifths, cantus); valid != want {
		t.Fatal(fifths, cantus, valid, want)
	}
}

// checkLine fails unless a line, which may be invalid, has these faults.
func checkLine(t *testing.T, o overCantus, want []impl.Fault) {
	t.Helper()
	if faults := o.faults(); !slices.Equal(faults, want) {
		t.Fatal(o, faults, want)
	}
}

// checkGood fails unless a line, which may be invalid, is good or not.
func checkGood(t *testing.T, o overCantus, want bool) {
	t.Helper()
	if good := o.good(); good != want {
		t.Fatal(o, good, want)
	}
}

// keyPitches are all valid pitches in a key, upwards, from the least key to the greatest one.
func keyPitches(fifths int, low int, high int) []impl.Pitch {
	return slices.DeleteFunc(allPitches(), func(p impl.Pitch) bool {
		return p.Alter != orderedAlter(fifths, p.Step) || keyOf(p) < low || keyOf(p) > high
	})
}

// randomCantus is a valid cantus with so many tones in the middle octaves.
func randomCantus(source *rand.Rand, fifths int, count int) []impl.Pitch {
	pitches := keyPitches(fifths, 40, 64)
	var cantus []impl.Pitch
	for range count {
		cantus = append(cantus, pitches[source.IntN(len(pitches))])
	}
	return cantus
}

// placedTone is a pitch as the tone with a number.
type placedTone struct {
	at int
	p  impl.Pitch
}

// randomGood is a good line over a cantus, found by trying one tone after the other in a random order; it is empty if there is none.
func randomGood(source *rand.Rand, fifths int, cantus []impl.Pitch) overCantus {
	o := overCantus{fifths, cantus, slices.Clone(cantus)}
	pitches, dead := keyPitches(fifths, 0, 107), map[placedTone]bool{}
	var goOn func(at int) bool
	goOn = func(at int) bool {
		if at == len(cantus) {
			return true
		}
		for _, number := range source.Perm(len(pitches)) {
			tone := placedTone{at, pitches[number]}
			o.line[at] = tone.p
			if len(o.toneFaults(at)) > 0 || len(o.stepFaults(at)) > 0 || dead[tone] {
				continue
			}
			if goOn(at + 1) {
				return true
			}
			// What can come behind a tone depends on it alone.
			dead[tone] = true
		}
		return false
	}
	if !goOn(0) {
		o.line = nil
	}
	return o
}

// goodLines are good lines in all keys and of all lengths, always the same ones.
func goodLines(seed uint64) []overCantus {
	source := rand.New(rand.NewPCG(14, seed))
	var lines []overCantus
	for _, fifths := range validKeys() {
		for count := 2; count <= 10; count++ {
			for range 4 {
				if o := randomGood(source, fifths, randomCantus(source, fifths, count)); len(o.line) > 0 {
					lines = append(lines, o)
				}
			}
		}
	}
	return lines
}

// randomOver are lines of valid pitches over valid cantus, always the same ones: some are good but for a few tones, some near the cantus, and some anywhere.
func randomOver(seed uint64, count int) []overCantus {
	source := rand.New(rand.NewPCG(14, seed))
	pitches, spelled, good := allPitches(), spelledKeys(), goodLines(seed)
	var lines []overCantus
	for round := range count {
		if round%3 == 0 {
			o := good[source.IntN(len(good))]
			for range source.IntN(3) {
				p := o.line[source.IntN(len(o.line))]
				o = o.withTone(source.IntN(len(o.line)), p)
			}
			lines = append(lines, o)
			continue
		}
		fifths := source.IntN(15) - 7
		o := overCantus{fifths: fifths, cantus: randomCantus(source, fifths, 2+source.IntN(9))}
		near := keyPitches(fifths, 40, 76)
		for at := range o.cantus {
			p := near[source.IntN(len(near))]
			switch low := keyOf(o.cantus[at]); source.IntN(4) {
			case 0:
				ways := spelled[low+source.IntN(17)]
				p = ways[source.IntN(len(ways))]
			case 1:
				ways := spelled[low+[]int{-12, -7, -5, 0, 7, 12}[source.IntN(6)]]
				p = ways[source.IntN(len(ways))]
			}
			if round%3 == 1 && source.IntN(4) == 0 {
				p = pitches[source.IntN(len(pitches))]
			}
			o.line = append(o.line, p)
		}
		lines = append(lines, o)
	}
	return lines
}

func TestP69CantusHaveLimits(t *testing.T) {
	if impl.MinCantus != 2 || impl.MaxCantus != 10 {
		t.Fatal(impl.MinCantus, impl.MaxCantus)
	}
}

func TestP69CantusByText(t *testing.T) {
	cases := []struct {
		fifths int
		cantus string
		valid  bool
	}{
		{0, "C4 D4 C4", true},
		{0, "C4 C4", true}, // the least number of tones
		{0, "C4", false},
		{0, "", false},
		{0, "C4 D4 E4 F4 G4 A4 B4 A4 D4 C4", true}, // the greatest one
		{0, "C4 D4 E4 F4 G4 A4 B4 A4 D4 C4 C4", false},
		{0, "C0 B8", true}, // the octaves do not matter, nor do leaps
		{0, "C8 C0 C4 C4 C4", true},
		{0, "B#3 D4 C4", false}, // at the first, at a middle and at the last place
		{0, "C4 D#4 C4", false},
		{0, "C4 D4 Cb4", false},
		{0, "Dbb4 D4 C4", false}, // sounds as C4
		{2, "C4 D4 C4", false},
		{2, "C#4 D4 C#4", true},
		{2, "Db4 D4 C#4", false},
		{-1, "F4 Bb4 A4 G4 F4", true},
		{-1, "F4 B4 A4 G4 F4", false},
		{-1, "F4 A#4 A4 G4 F4", false},
		{-7, "Cb4 Db4 Eb4 Fb4 Gb4 Ab4 Bb4", true},
		{-7, "Cb4 Db4 Eb4 E4 Gb4 Ab4 Bb4", false},
		{-7, "B3 Cb4", false},
		{-6, "Cb4 Db4 Eb4 F4 Gb4 Ab4 Bb4", true},
		{-6, "Cb4 Db4 Eb4 Fb4 Gb4 Ab4 Bb4", false},
		{7, "C#4 D#4 E#4 F#4 G#4 A#4 B#4", true},
		{7, "C#4 D#4 E#4 F#4 G#4 A#4 B4", false},
		{7, "C#4 D#4 F4 F#4 G#4 A#4 B#4", false},
		{6, "C#4 D#4 E#4 F#4 G#4 A#4 B4", true},
		{6, "C#4 D#4 E#4 F#4 G#4 A#4 B#4", false},
		{8, "C#4 D#4 E#4 F##4 G#4 A#4 B#4", false}, // there is no such key
		{8, "C#4 D#4", false},
		{-8, "Cb4 Db4 Eb4 Fb4 Gb4 Ab4 Bbb4", false},
		{-8, "Cb4 Db4", false},
		{8, "", false},
	}
	for _, c := range cases {
		cantus := pitchesOf(t, c.cantus)
		if want := cantusIsValid(c.fifths, cantus); want != c.valid {
			t.Fatal(c, want)
		}
		checkCantus(t, c.fifths, cantus, c.valid)
	}
	checkCantus(t, 0, nil, false)
	checkCantus(t, 0, []impl.Pitch{}, false)
	checkCantus(t, 0, make([]impl.Pitch, 2), true) // C0 twice
	checkCantus(t, 2, make([]impl.Pitch, 2), false)
}

func TestP69CantusOfEveryCount(t *testing.T) {
	counts := []int{60, 255, 256, 256 + 2, 256 + 10, 1 << 16, 1<<16 + 2, 1<<16 + 10}
	for count := range 40 {
		counts = append(counts, count)
	}
	for _, fifths := range validKeys() {
		pitches := keyPitches(fifths, 0, 107)
		for _, count := range counts {
			cantus := slices.Repeat(pitches, count/len(pitches)+1)[:count]
			checkCantus(t, fifths, cantus, count >= 2 && count <= 10)
		}
	}
}

func TestP69CantusWithoutTheFirstPitch(t *testing.T) {
	source := rand.New(rand.NewPCG(14, 69))
	for _, fifths := range validKeys() {
		for range 200 {
			cantus := randomCantus(source, fifths, 10)
			for from := range cantus {
				for to := from; to <= 10; to++ {
					checkCantus(t, fifths, cantus[from:to], to-from >= 2)
				}
			}
			longer := append(slices.Clone(cantus), cantus[0])
			checkCantus(t, fifths, longer, false)
			checkCantus(t, fifths, longer[1:], true)
		}
	}
}

// TestP69EveryPitchAtEveryPlace puts every valid pitch at every place of a cantus of every length, in all keys.
func TestP69EveryPitchAtEveryPlace(t *testing.T) {
	source := rand.New(rand.NewPCG(14, 690))
	for _, fifths := range validKeys() {
		for count := 2; count <= 10; count++ {
			cantus := randomCantus(source, fifths, count)
			for at := range cantus {
				with := slices.Clone(cantus)
				for _, p := range allPitches() {
					with[at] = p
					checkCantus(t, fifths, with, p.Alter == orderedAlter(fifths, p.Step))
				}
			}
		}
	}
}

// TestP69OtherNamesAreNotInTheKey writes each tone of a cantus by its other names.
func TestP69OtherNamesAreNotInTheKey(t *testing.T) {
	source := rand.New(rand.NewPCG(14, 6900))
	spelled, refused := spelledKeys(), 0
	for _, fifths := range validKeys() {
		cantus := randomCantus(source, fifths, 10)
		for at, tone := range cantus {
			for _, p := range spelled[keyOf(tone)] {
				with := slices.Clone(cantus)
				with[at] = p
				checkCantus(t, fifths, with, p == tone)
				if p != tone {
					refused++
				}
			}
		}
	}
	if refused < 200 {
		t.Fatal(refused)
	}
}

// TestP69CantusInSeveralKeys tries all pairs of steps and alterations in all keys.
func TestP69CantusInSeveralKeys(t *testing.T) {
	for _, first := range allTones() {
		for _, second := range allTones() {
			for fifths := -20; fifths <= 20; fifths++ {
				checkCantus(t, fifths, []impl.Pitch{first, second}, isInKey(fifths, first) && isInKey(fifths, second))
			}
		}
	}
}

func TestP69OtherPitchesAreNoCantus(t *testing.T) {
	source := rand.New(rand.NewPCG(14, 69000))
	for _, fifths := range []int{-7, 0, 7} {
		for _, count := range []int{2, 3, 10} {
			cantus := randomCantus(source, fifths, count)
			for _, bad := range badPitches() {
				for _, at := range []int{0, count / 2, count - 1} {
					with := slices.Clone(cantus)
					with[at] = bad
					checkCantus(t, fifths, with, false)
				}
				checkCantus(t, fifths, slices.Repeat([]impl.Pitch{bad}, count), false)
			}
		}
	}
}

func TestP69OtherKeysHaveNoCantus(t *testing.T) {
	source := rand.New(rand.NewPCG(14, 690000))
	for _, fifths := range badKeys() {
		for _, other := range validKeys() {
			checkCantus(t, fifths, randomCantus(source, other, 2), false)
			checkCantus(t, fifths, randomCantus(source, other, 10), false)
		}
		for _, p := range allPitches() {
			checkCantus(t, fifths, []impl.Pitch{p, p}, false)
		}
		checkCantus(t, fifths, nil, false)
	}
}

func TestP69CantusAreOnlyRead(t *testing.T) {
	for _, o := range randomOver(69, 300) {
		cantus, check := lendPitches(o.cantus)
		checkCantus(t, o.fifths, cantus, true)
		check(t)
		line, check := lendPitches(o.line)
		checkCantus(t, o.fifths, line, cantusIsValid(o.fifths, o.line))
		check(t)
	}
}

func TestP70FaultsHaveNumbers(t *testing.T) {
	faults := []int{0, impl.LineKey, impl.LineDissonant, impl.LineFar, impl.LineEnds, impl.LineParallel, impl.LineLeap, impl.LineRepeat}
	for at, fault := range faults {
		if fault != at {
			t.Fatal(at, fault)
		}
	}
}

// linesByText are lines over a cantus with their faults.
var linesByText = []struct {
	fifths             int
	cantus, line, want string
}{
	// Without a fault.
	{0, "C4 D4 C4", "G4 B4 C5", ""},
	{0, "C4 D4 C4", "C5 B4 C5", ""},
	{0, "C4 D4 C4", "C4 F4 C4", ""},
	{0, "C4 C4", "G4 C5", ""},
	{0, "C4 E4 D4 C4", "C5 G4 B4 C5", ""},
	{0, "D4 F4 E4 D4", "A4 D5 C5 D5", ""},
	{0, "D4 F4 E4 D4 G4 F4 A4 G4 E4 D4", "A4 D5 C5 B4 D5 A4 E5 B4 C5 D5", ""},
	{0, "C0 D0 C0", "G0 B0 C1", ""},
	{0, "A8 G8 A8", "A8 B8 A8", ""},
	{2, "B3 C#4 B3", "F#4 E4 B4", ""},
	{-7, "Cb4 Db4 Cb4", "Gb4 Bb4 Cb5", ""},
	{7, "C#4 D#4 C#4", "G#4 B#4 C#5", ""},

	// Not in the key, at the first, at a middle and at the last place, by the alteration alone and by other names of the same sound.
	{0, "C4 D4 C4", "G#4 B4 C5", "0:key"},
	{0, "C4 D4 C4", "Abb4 B4 C5", "0:key"},
	{0, "C4 D4 C4", "F##4 B4 C5", "0:key"},
	{0, "C4 D4 C4", "G4 Bb4 C5", "1:key"},
	{0, "C4 D4 C4", "G4 Cb5 C5", "1:key"},
	{0, "C4 D4 C4", "G4 B4 C#5", "2:key"},
	{0, "C4 D4 C4", "G4 B4 B#4", "2:key"},
	{0, "C4 D4 C4", "G4 B4 Dbb5", "2:key"},
	{-7, "Cb4 Db4 Cb4", "G4 Bb4 Cb5", "0:key"},
	{-7, "Cb4 Db4 Cb4", "F#4 Bb4 B4", "0:key 2:key"},
	{7, "C#4 D#4 C#4", "G#4 C5 C#5", "1:key"},
	{7, "C#4 D#4 C#4", "G4 B4 C5", "0:key 1:key 2:key"},

	// Below the cantus: by one half tone, an octave, a fourth, a fifth and farther.
	{0, "F4 F4 F4", "C5 E4 F4", "1:far"},
	{0, "E4 F4 E4", "E4 E4 E4", "1:far 1:repeat 2:repeat"},
	{0, "C4 G4 A3 G3", "C4 G3 C4 G4", "1:far 1:parallel"},
	{0, "C4 E3 C4", "C3 G3 C4", "0:far"},
	{0, "C4 E3 C4", "G3 C4 G4", "0:far 2:ends"},
	{0, "C4 E3 C4", "F3 C4 C5", "0:far 2:leap"},
	{0, "C4 C4", "G4 C3", "1:far 1:leap"},
	{0, "C4 C4", "C0 C8", "0:far 1:far 1:leap"},
	{0, "C8 C8", "C0 C0", "0:far 1:far 1:repeat"},

	// Spelled above the cantus and sounding below, or the other way round: such a tone is not in the key.
	{7, "E#4 E#4 E#4", "B#4 Fb4 E#4", "1:key"},
	{7, "B#3 B#3 B#3", "F##4 Cb4 B#3", "0:key 1:key"},
	{7, "B#3 B#3 B#3", "B#3 Cb4 B#3", "1:key"},
	{-7, "Fb4 Fb4 Fb4", "Cb5 E#4 Fb4", "1:key"},
	{-7, "Cb4 Cb4", "B#3 Cb4", "0:key"},
	{7, "E#4 E#4 E#4", "B#4 Fbb4 E#4", "1:key"},
	{2, "F#4 F#4 F#4", "C#5 Gbb4 F#4", "1:key"},

	// Above the cantus by 16 and more half tones.
	{0, "C4 C4 D4 C4", "G4 E5 B4 C5", ""},
	{0, "C4 C4 D4 C4", "E5 G4 B4 C5", "0:ends"},
	{0, "C4 D4 C4", "G4 B4 E5", "2:ends"},
	{0, "C4 C4 C4", "C5 F5 C5", "1:far"},
	{0, "C4 D4 C4", "F5 B4 C5", "0:far"},
	{0, "C4 D4 C4", "G4 B4 F5", "2:far"},
	{-1, "F4 F4 F4", "F5 Bb5 F5", "1:far"},
	{0, "C4 C4 C4", "C5 G5 C5", "1:far"},
	{0, "C4 E4 C4", "G5 G5 C5", "0:far 1:repeat"},
	{0, "C5 C4", "G5 C6", "1:far"},

	// Dissonances, and ends.
	{0, "C4 D4 C4", "F4 B4 C5", "0:dissonant"},
	{0, "C4 D4 C4", "D4 B4 C5", "0:dissonant"},
	{0, "C4 D4 C4", "B4 F4 C5", "0:dissonant"},
	{0, "C4 D4 C4", "G4 C5 E4", "1:dissonant 2:ends"},
	{0, "C4 D4 E4 C4", "G4 E4 G4 C5", "1:dissonant"},
	{0, "C4 B3 C4", "C5 A4 C5", "1:dissonant"},
	{0, "E4 E4 E4", "E4 F4 E4", "1:dissonant"},
	{0, "F4 F4 F4", "F4 B4 F4", "1:dissonant"},
	{0, "F4 F4 F4", "F4 E5 F4", "1:dissonant 1:leap 2:leap"},
	{0, "E4 E4 E4", "E5 F5 E5", "1:dissonant"},
	{0, "C4 C4 C4", "C5 D5 C5", "1:dissonant"},
	{0, "C4 D4 C4", "G4 B4 D5", "2:dissonant"},
	{0, "C4 D4 C4", "C5 D5 B4", "1:parallel 2:dissonant"},
	{0, "C4 D4 C4", "A4 B4 C5", "0:ends"},
	{0, "C4 D4 C4", "E4 B4 C5", "0:ends"},
	{0, "C4 D4 C4", "C5 B4 G4", "2:ends"},
	{0, "C4 D4 C4", "G4 B4 A4", "2:ends"},
	{0, "C4 C4", "C5 G4", "1:ends"},
	{0, "C4 C4", "E4 A4", "0:ends 1:ends"},

	// Several faults of one tone over the cantus, of which the first one counts.
	{0, "C4 D4 C4", "C4 C#4 C4", "1:key"}, // below
	{0, "C4 D4 C4", "C5 G#5 C5", "1:key"}, // too far above
	{0, "C4 D4 C4", "G4 G#4 C5", "1:key"}, // a dissonance
	{0, "C4 D4 C4", "Eb4 B4 C5", "0:key"}, // a wrong beginning
	{0, "C4 D4 C4", "G4 B4 Ab4", "2:key"}, // a wrong end
	{0, "C4 D4 C4", "F#4 B4 C5", "0:key"}, // a dissonance, and a wrong beginning
	{0, "C4 D4 C4", "Bb3 F4 C4", "0:key"}, // all of them
	{0, "C4 D4 C4", "B3 F4 C4", "0:far"},  // a dissonance, and a wrong beginning
	{0, "C4 D4 C4", "A3 F4 C4", "0:far"},  // a wrong beginning
	{0, "C4 D4 C4", "C4 F4 A3", "2:far"},  // a wrong end
	{0, "C4 D4 C4", "G4 F4 B3", "2:far"},  // a dissonance, and a wrong end
	{0, "C4 D4 C4", "C4 C4 C4", "1:far 1:repeat 2:repeat"},

	// Repetitions: the keys count, not the names.
	{0, "C4 E4 D4 C4", "G4 G4 B4 C5", "1:repeat"},
	{0, "C4 E4 D4 C4", "G4 Abb4 B4 C5", "1:key 1:repeat"},
	{0, "C4 E4 D4 C4", "F##4 G4 B4 C5", "0:key 1:repeat"},
	{0, "C4 E4 D4 C4", "F##4 Abb4 B4 C5", "0:key 1:key 1:repeat"},
	{0, "C4 E4 D4 C4", "C5 B#4 B4 C5", "1:key 1:repeat"},
	{0, "C4 E4 D4 C4", "G4 G#4 B4 C5", "1:key"},
	{0, "C4 F4 F4 C4", "G4 C5 C5 C5", "1:parallel 2:repeat 3:repeat"},
	{0, "C4 C4 D4 C4", "G4 G4 B4 C5", "1:repeat"}, // and parallels
	{0, "C4 C4 D4 C4", "C4 C4 F4 C4", "1:repeat"},
	{0, "C4 C5 D4 C4", "C5 C5 B4 C5", "1:repeat"},

	// Leaps of 9 and of 10 half tones and more, upwards and downwards.
	{0, "C4 C4 C4 C4", "C5 E5 G4 C5", ""},
	{0, "C4 D4 C4", "G4 F5 C5", "1:leap"},
	{0, "C4 D4 C4 C4", "C5 F5 G4 C5", "2:leap"},
	{0, "C4 D4 C4", "C4 B4 C5", "1:leap"},
	{0, "C4 D4 C4", "C5 B4 C4", "2:leap"},
	{0, "C4 C4", "C5 C4", "1:leap"}, // and parallels
	{0, "C4 C4 D4 C4", "C4 C5 B4 C5", "1:leap"},
	{0, "C5 D4 C4", "G5 A4 C5", "1:leap"},
	{0, "C4 D4 C4", "G4 F##5 C5", "1:key 1:leap"},

	// Parallels: octaves, unisons, fifths, and octaves between.
	{0, "C4 D4 C4", "C5 D5 C5", "1:parallel 2:parallel"},
	{0, "B8 A8 B8", "B8 A8 B8", "1:parallel 2:parallel"},
	{0, "C4 D4 C4", "C4 D4 C4", "1:parallel 2:parallel"},
	{0, "C5 D4 E4 C4", "C5 D5 G4 C5", "1:parallel"},
	{0, "C4 D5 D4 C4", "C5 D5 B4 C5", "1:parallel"},
	{0, "C4 D4 E4 C4", "G4 A4 G4 C5", "1:parallel"},
	{0, "C4 D4 E4 C4", "C5 A4 B4 C5", "2:parallel"},
	{0, "C4 D3 E4 C4", "G4 A4 G4 C5", "1:far 1:parallel"},
	{0, "D3 C4 D4 C4", "A4 G4 B4 C5", "0:far 1:parallel"},
	{0, "C4 D4 C4", "C5 Ebb5 C5", "1:key 1:parallel 2:parallel"},
	{0, "C4 D4 C4", "B#4 C##5 Dbb5", "0:key 1:key 1:parallel 2:key 2:parallel"},
	{0, "C4 C4 D4 C4", "C4 G4 B4 C5", ""}, // from a unison to a fifth
	{0, "C4 C4 D4 C4", "G4 C5 B4 C5", ""}, // from a fifth to an octave
	{0, "C4 D4 E4 D4 C4", "C4 F4 G4 F4 C5", ""},
	{0, "C4 D4 E4 D4 C4", "C5 B4 C5 B4 C5", ""},
	{0, "C4 D4 E4 C4", "G4 G4 A4 C5", "1:dissonant 1:repeat 2:dissonant"}, // fourths

	// Parallels where tones lie below the cantus: octaves do not matter, so that a fourth below is 7, and a fifth below 5.
	{0, "C4 G4 A4 G3", "C4 G3 A3 G3", "1:far 1:parallel 2:far 2:parallel 3:parallel"},
	{0, "C5 D5 G4", "C5 D4 G4", "1:far 1:leap 2:parallel"},
	{0, "C4 A4 E4 C4", "G4 E4 G4 C5", "1:far 1:parallel"},
	{0, "A4 C4 D4 C4", "E4 G4 B4 C5", "0:far 1:parallel"},
	{0, "C5 D5 E4 C4", "G4 A4 G4 C5", "0:far 1:far 1:parallel"},
	{0, "C4 B4 E4 C4", "G4 E4 G4 C5", "1:far"},
	{0, "C5 D5 D4 C4", "F4 G4 B4 C5", "0:far 1:far"},
	{0, "D5 E5 B3 C4", "A3 B3 D4 C4", "0:far 1:far 1:parallel"},
	{0, "C5 D5 D4 C4", "C4 A3 D4 C4", "0:far 1:far 3:parallel"},
}

func TestP70LinesByText(t *testing.T) {
	for _, c := range linesByText {
		o, want := overOf(t, c.fifths, c.cantus, c.line), lineFaultsIn(t, c.want)
		if !o.isValid() || !slices.Equal(o.wantedFaults(), want) {
			t.Error(c, o.wantedFaults())
		}
		checkLine(t, o, want)
	}
}

// toneCodes and stepCodes are the codes of the faults over the cantus, and of those of steps.
var (
	toneCodes = []int{impl.LineKey, impl.LineFar, impl.LineDissonant, impl.LineEnds}
	stepCodes = []int{impl.LineRepeat, impl.LineLeap, impl.LineParallel}
)

// faultAt is the first fault of a tone with one of some codes; 0 if it has none.
func faultAt(faults []impl.Fault, at int, codes []int) int {
	for _, fault := range faults {
		if fault.At == at && slices.Contains(codes, fault.Code) {
			return fault.Code
		}
	}
	return 0
}

// distanceFaults are the faults of tones in the key so many half tones above the cantus: at the beginning, in the middle and at the end.
var distanceFaults = map[int][3]string{
	0: {}, 1: {"dissonant", "dissonant", "dissonant"}, 2: {"dissonant", "dissonant", "dissonant"}, 3: {"ends", "", "ends"}, 4: {"ends", "", "ends"},
	5: {"dissonant", "dissonant", "dissonant"}, 6: {"dissonant", "dissonant", "dissonant"}, 7: {"", "", "ends"}, 8: {"ends", "", "ends"}, 9: {"ends", "", "ends"},
	10: {"dissonant", "dissonant", "dissonant"}, 11: {"dissonant", "dissonant", "dissonant"}, 12: {}, 13: {"dissonant", "dissonant", "dissonant"},
	14: {"dissonant", "dissonant", "dissonant"}, 15: {"ends", "", "ends"}, 16: {"ends", "", "ends"},
}

// TestP70EveryDistance tries all pairs of tones of all keys as the cantus and the line.
func TestP70EveryDistance(t *testing.T) {
	seen := map[int]bool{}
	for _, fifths := range validKeys() {
		for _, low := range keyPitches(fifths, 36, 60) {
			for _, high := range keyPitches(fifths, 0, 107) {
				o := overCantus{fifths, slices.Repeat([]impl.Pitch{low}, 5), slices.Repeat([]impl.Pitch{low}, 5)}
				distance := keyOf(high) - keyOf(low)
				for place, at := range []int{0, 2, 4} {
					want := impl.LineFar
					if names, ok := distanceFaults[distance]; ok {
						want, seen[distance] = lineFaultsByName[names[place]], true
					}
					faults := o.withTone(at, high).faults()
					if faultAt(faults, at, toneCodes) != want {
						t.Fatal(fifths, low, high, at, faults)
					}
				}
			}
		}
	}
	if len(seen) != 17 {
		t.Fatal(seen)
	}
}

// TestP70EveryTone tries every pitch over every tone of every key at the beginning, in the middle and at the end. All faults meet that can.
func TestP70EveryTone(t *testing.T) {
	pitches, seen := allPitches(), map[[2]int]int{}
	for _, fifths := range validKeys() {
		cantus := append(keyPitches(fifths, 48, 60), keyPitches(fifths, 0, 5)[0], keyPitches(fifths, 100, 107)[0])
		for _, low := range cantus {
			o := overCantus{fifths, slices.Repeat([]impl.Pitch{low}, 3), slices.Repeat([]impl.Pitch{low}, 3)}
			for _, p := range pitches {
				for at := range 3 {
					with := o.withTone(at, p)
					checkLine(t, with, with.wantedFaults())
					found := with.toneFaults(at)
					for number, later := range found {
						seen[[2]int{found[0], later}]++
						if number == 0 && len(found) == 1 {
							seen[[2]int{found[0], 0}]++
						}
					}
				}
			}
		}
	}
	for number, first := range toneCodes {
		if seen[[2]int{first, 0}] == 0 {
			t.Fatal(first, "is never alone", seen)
		}
		for _, later := range toneCodes[number+1:] {
			if seen[[2]int{first, later}] == 0 {
				t.Fatal(first, later, "never meet", seen)
			}
		}
	}
}

// stepFaultOf is the fault of a step of so many half tones between tones that are so far above the cantus, negative below.
func stepFaultOf(step int, before int, after int) int {
	fifths, octaves := []int{-29, -17, -5, 7, 19, 31}, []int{-24, -12, 0, 12, 24, 36}
	switch {
	case step == 0:
		return impl.LineRepeat
	case step < -9 || step > 9:
		return impl.LineLeap
	case slices.Contains(fifths, before) && slices.Contains(fifths, after), slices.Contains(octaves, before) && slices.Contains(octaves, after):
		return impl.LineParallel
	}
	return 0
}

// TestP70EveryStep tries all pairs of tones near pairs of tones of the cantus, as the first, a middle and the last step; the tones have any names.
func TestP70EveryStep(t *testing.T) {
	spelled, counts := spelledKeys(), map[int]int{}
	for _, low := range []string{"C4", "F4"} {
		first := readPitch(t, low)
		for _, second := range keyPitches(0, 43, 63) {
			for before := -29; before <= 31; before++ {
				for after := -29; after <= 31; after++ {
					from, to := keyOf(first)+before, keyOf(second)+after
					at := 1 + (before+after+100)%4
					o := overCantus{0, slices.Repeat([]impl.Pitch{first}, 5), slices.Repeat([]impl.Pitch{first}, 5)}
					o.cantus[at] = second
					copy(o.line[at-1:], withKeys(spelled, []int{from, to}))
					want, faults := stepFaultOf(to-from, before, after), o.faults()
					if faultAt(faults, at, stepCodes) != want {
						t.Fatal(o, faults, want)
					}
					counts[want]++
				}
			}
		}
	}
	for _, fault := range []int{0, impl.LineRepeat, impl.LineLeap, impl.LineParallel} {
		if counts[fault] < 300 {
			t.Fatal(counts)
		}
	}
}

// TestP70LeapsOfEverySize goes from tones that make no parallels up and down.
func TestP70LeapsOfEverySize(t *testing.T) {
	spelled := spelledKeys()
	for _, key := range []int{40, 52, 61} {
		for step := -30; step <= 30; step++ {
			for _, p := range spelled[key+step] {
				for _, from := range spelled[key] {
					o := overOf(t, 0, "A3 D4 E4 A3", "A4 D4 E4 A4")
					o.line[1], o.line[2] = from, p
					want := 0
					if step < -9 || step > 9 {
						want = impl.LineLeap
					} else if step == 0 {
						want = impl.LineRepeat
					}
					if faults := o.faults(); faultAt(faults, 2, stepCodes) != want {
						t.Fatal(o, faults, want)
					}
				}
			}
		}
	}
}

// TestP70StepsHaveNoNames spells the tones of lines in other ways: the faults of the steps stay.
func TestP70StepsHaveNoNames(t *testing.T) {
	spelled := spelledKeys()
	for _, o := range randomOver(70, 1500) {
		faults := o.faults()
		for at, tone := range o.line {
			for _, p := range spelled[keyOf(tone)] {
				other := o.withTone(at, p).faults()
				for step := range o.line {
					if faultAt(other, step, stepCodes) != faultAt(faults, step, stepCodes) {
						t.Fatal(o, at, p, faults, other)
					}
				}
				if key := faultAt(other, at, toneCodes) == impl.LineKey; key == isInKey(o.fifths, p) {
					t.Fatal(o, at, p, other)
				}
			}
		}
	}
}

// TestP70ChangedTones changes one tone of good lines: it alone may have a fault over the cantus, and it and the next one one of their steps.
func TestP70ChangedTones(t *testing.T) {
	pitches, counts := allPitches(), map[int]int{}
	for number, o := range goodLines(700) {
		if number%4 != 0 {
			continue
		}
		for at := range o.line {
			for _, p := range pitches {
				with := o.withTone(at, p)
				faults := with.faults()
				if !slices.Equal(faults, with.wantedFaults()) || len(faults) > 3 {
					t.Fatal(with, faults)
				}
				for _, fault := range faults {
					if fault.At != at && (fault.At != at+1 || !slices.Contains(stepCodes, fault.Code)) {
						t.Fatal(with, at, faults)
					}
				}
				if len(faults) == 1 && faults[0].At == at {
					counts[faults[0].Code]++
				}
			}
		}
	}
	for _, code := range slices.Concat(toneCodes, stepCodes) {
		if counts[code] < 10 {
			t.Fatal(counts)
		}
	}
}

func TestP70RandomLines(t *testing.T) {
	counts := map[int]int{}
	for _, o := range randomOver(7000, 30000) {
		want := o.wantedFaults()
		checkLine(t, o, want)
		for _, fault := range want {
			counts[fault.Code]++
		}
		if len(want) == 0 {
			counts[0]++
		}
	}
	for code := range 8 {
		if counts[code] < 1000 {
			t.Fatal(counts)
		}
	}
}

func TestP70FaultsAreInOrder(t *testing.T) {
	two := 0
	for _, o := range randomOver(70000, 20000) {
		faults := o.faults()
		for number, fault := range faults {
			if fault.At < 0 || fault.At >= len(o.line) || fault.At == 0 && !slices.Contains(toneCodes, fault.Code) {
				t.Fatal(o, faults)
			}
			if number == 0 {
				continue
			}
			switch before := faults[number-1]; {
			case before.At > fault.At:
				t.Fatal(o, faults)
			case before.At == fault.At:
				two++
				if !slices.Contains(toneCodes, before.Code) || !slices.Contains(stepCodes, fault.Code) {
					t.Fatal(o, faults)
				}
			}
		}
	}
	if two < 1000 {
		t.Fatal(two)
	}
}

// TestP70PartsOfLines looks at the beginnings of lines, which have the faults of the line, but for those of their ends.
func TestP70PartsOfLines(t *testing.T) {
	for _, o := range randomOver(700000, 3000) {
		faults := o.faults()
		for count := 2; count <= len(o.line); count++ {
			part := o.first(count).faults()
			for at := range count {
				if at < count-1 && faultAt(part, at, toneCodes) != faultAt(faults, at, toneCodes) || faultAt(part, at, stepCodes) != faultAt(faults, at, stepCodes) {
					t.Fatal(o, count, part, faults)
				}
			}
		}
	}
}

// TestP70EveryToneHasTwoFaults has lines of all lengths of which every tone has two faults, but the first one, which has one or none.
func TestP70EveryToneHasTwoFaults(t *testing.T) {
	cases := []struct{ first, cantus, line, firstFault, faults string }{
		{"D4", "D4 D4", "G4 G4", "dissonant", "dissonant repeat"},
		{"C4", "D4 D4", "G4 G4", "", "dissonant repeat"},
		{"D4", "D4 D4", "D#4 Eb4", "key", "key repeat"},
		{"D4", "D4 D4", "C#4 C#5", "key", "key leap"},
		{"C4", "C4 C4", "C3 B1", "far", "far leap"},
		{"C3", "C4 C4", "C3 B1", "", "far leap"},
		{"C4", "C4 D4", "B#4 C##5", "key", "key parallel"},
		{"C4", "C4 D4", "C3 D3", "far", "far parallel"},
		{"C3", "C4 D4", "C3 D3", "", "far parallel"},
	}
	for _, c := range cases {
		for count := 2; count <= 10; count++ {
			o := overCantus{0, slices.Repeat(pitchesOf(t, c.cantus), 5)[:count], slices.Repeat(pitchesOf(t, c.line), 5)[:count]}
			o.cantus[0] = readPitch(t, c.first)
			var want []impl.Fault
			if c.firstFault != "" {
				want = append(want, impl.Fault{At: 0, Code: lineFaultsByName[c.firstFault]})
			}
			for at := 1; at < count; at++ {
				for _, name := range strings.Fields(c.faults) {
					want = append(want, impl.Fault{At: at, Code: lineFaultsByName[name]})
				}
			}
			checkLine(t, o, want)
		}
	}
}

// TestP70FaultsAreNewMemory writes to faults, which changes neither the pitches nor what is returned next.
func TestP70FaultsAreNewMemory(t *testing.T) {
	for _, o := range slices.Concat(randomOver(7, 500), refusedLines(t)) {
		cantus, checkBelow := lendPitches(o.cantus)
		line, checkAbove := lendPitches(o.line)
		lent := overCantus{o.fifths, cantus, line}
		first, second := lent.faults(), lent.faults()
		all := first[:cap(first)]
		for at := range all {
			all[at] = impl.Fault{At: -1, Code: -1}
		}
		checkBelow(t)
		checkAbove(t)
		want := o.wantedFaults()
		if third := lent.faults(); !slices.Equal(second, want) || !slices.Equal(third, want) {
			t.Fatal(o, second, third, want)
		}
	}
}

// unequalLines are lines that are longer or shorter than their cantus; their beginnings are good.
func unequalLines(t *testing.T) []overCantus {
	t.Helper()
	low, high := pitchesOf(t, "C4 D4 C4 D4 C4 D4 C4 D4 C4 C4"), pitchesOf(t, "C5 B4 C5 B4 C5 B4 C5 B4 C5 C4")
	var list []overCantus
	for below := range 11 {
		for above := range 11 {
			if below != above {
				list = append(list, overCantus{0, low[:below], high[:above]})
			}
		}
		for _, far := range []int{11, 12, 13, 256 + below, 1<<16 + below} {
			list = append(list, overCantus{0, low[:below], slices.Repeat(high, far/10+1)[:far]})
			list = append(list, overCantus{0, slices.Repeat(low, far/10+1)[:far], high[:below]})
		}
	}
	return append(list, overCantus{}, overCantus{0, low, nil}, overCantus{0, nil, high}, overCantus{0, []impl.Pitch{}, []impl.Pitch{}}, overCantus{0, low, []impl.Pitch{}})
}

// uncountedLines are lines over a cantus with too few tones or too many; they are good but for that.
func uncountedLines() []overCantus {
	source := rand.New(rand.NewPCG(14, 71))
	var list []overCantus
	for _, fifths := range validKeys() {
		for _, count := range []int{1, 11, 12, 13, 14, 30, 60, 256 + 2} {
			if o := randomGood(source, fifths, randomCantus(source, fifths, count)); len(o.line) > 0 {
				list = append(list, o)
			}
		}
	}
	return list
}

// mixedLines are lines over a cantus with one pitch, at some place, that is not in the key.
func mixedLines() []overCantus {
	var list []overCantus
	for _, o := range goodLines(71)[:200] {
		for at := range o.cantus {
			for alter := -2; alter <= 2; alter++ {
				if alter == orderedAlter(o.fifths, o.cantus[at].Step) {
					continue
				}
				cantus := slices.Clone(o.cantus)
				cantus[at].Alter = alter
				list = append(list, overCantus{o.fifths, cantus, o.line}, overCantus{o.fifths, cantus, cantus})
			}
		}
	}
	return list
}

// foreignLines are lines in keys that there are not.
func foreignLines() []overCantus {
	var list []overCantus
	good := goodLines(710)
	for number, fifths := range badKeys() {
		for step := range 15 {
			o := good[(number+37*step)%len(good)]
			list = append(list, overCantus{fifths, o.cantus, o.line}, overCantus{fifths, o.line, o.cantus})
		}
	}
	return list
}

// brokenLines are lines with invalid pitches in the cantus, in the line or in both, alone and among others.
func brokenLines() []overCantus {
	source := rand.New(rand.NewPCG(14, 7100))
	good := goodLines(7100)
	var list []overCantus
	for _, bad := range badPitches() {
		o := good[source.IntN(len(good))]
		for _, at := range []int{0, len(o.cantus) / 2, len(o.cantus) - 1} {
			cantus := slices.Clone(o.cantus)
			cantus[at] = bad
			with := o.withTone(at, bad)
			list = append(list, with, overCantus{o.fifths, cantus, o.line}, overCantus{o.fifths, cantus, with.line})
		}
		all := slices.Repeat([]impl.Pitch{bad}, len(o.cantus))
		list = append(list, overCantus{o.fifths, o.cantus, all}, overCantus{o.fifths, all, o.line}, overCantus{o.fifths, all, all})
	}
	return list
}

// refusedLines are lines of all sorts for which there is no answer.
func refusedLines(t *testing.T) []overCantus {
	t.Helper()
	groups := [][]overCantus{unequalLines(t), uncountedLines(), mixedLines(), foreignLines(), brokenLines()}
	for number, group := range groups {
		if len(group) < 100 {
			t.Fatal(number, len(group))
		}
	}
	return slices.Concat(groups...)
}

func TestP70OtherLinesHaveNoFaults(t *testing.T) {
	for _, o := range refusedLines(t) {
		if o.isValid() {
			t.Fatal(o)
		}
		checkLine(t, o, nil)
		// A tone with a fault changes nothing, unless it comes for the invalid one.
		for at := range min(len(o.line), 3) {
			if with := o.withTone(at, impl.Pitch{Step: 3, Alter: 2, Octave: at}); !with.isValid() {
				checkLine(t, with, nil)
			}
		}
	}
}

func TestP71LinesByText(t *testing.T) {
	for _, c := range linesByText {
		checkGood(t, overOf(t, c.fifths, c.cantus, c.line), c.want == "")
	}
}

// TestP71EveryLine tries all lines of valid pitches near short cantus.
func TestP71EveryLine(t *testing.T) {
	spelled, all, good := spelledKeys(), 0, 0
	for _, c := range []struct {
		fifths int
		cantus string
	}{{0, "C4 D4"}, {3, "G#4 A3"}, {0, "C4 D4 C4"}, {-3, "Eb4 C4 D4"}, {7, "B#3 C#4 E#4"}, {-7, "Cb4 Fb4 Bb3"}} {
		o := overCantus{fifths: c.fifths, cantus: pitchesOf(t, c.cantus)}
		o.line = slices.Clone(o.cantus)
		var goOn func(at int)
		goOn = func(at int) {
			if at < len(o.line) {
				low := keyOf(o.cantus[at])
				for key := low - 1; key <= low+17; key++ {
					for _, p := range spelled[key] {
						o.line[at] = p
						goOn(at + 1)
					}
				}
				return
			}
			want := len(o.wantedFaults()) == 0
			checkGood(t, o, want)
			if want != (len(o.faults()) == 0) {
				t.Fatal(o, o.faults())
			}
			all++
			if want {
				good++
			}
		}
		goOn(0)
	}
	if all < 100000 || good < 30 {
		t.Fatal(all, good)
	}
}

func TestP71GoodLinesHaveNoFault(t *testing.T) {
	lines := goodLines(71000)
	if len(lines) < 400 {
		t.Fatal(len(lines))
	}
	for _, o := range lines {
		checkGood(t, o, true)
		checkLine(t, o, nil)
		checkGood(t, overCantus{o.fifths, o.cantus, o.line[1:]}, false)
		checkGood(t, overCantus{o.fifths, o.cantus[1:], o.line}, false)
		checkGood(t, overCantus{o.fifths, o.cantus, append(slices.Clone(o.line), o.line[0])}, false)
		for fifths := -8; fifths <= 8; fifths++ {
			other := overCantus{fifths, o.cantus, o.line}
			checkGood(t, other, other.isValid() && len(other.wantedFaults()) == 0)
		}
	}
}

func TestP71RandomLines(t *testing.T) {
	good := 0
	for _, o := range randomOver(710000, 30000) {
		want := len(o.wantedFaults()) == 0
		checkGood(t, o, want)
		if want != (len(o.faults()) == 0) {
			t.Fatal(o, o.faults())
		}
		if want {
			good++
		}
	}
	if good < 1000 {
		t.Fatal(good)
	}
}

func TestP71OtherLinesAreNotGood(t *testing.T) {
	for _, o := range refusedLines(t) {
		if o.isValid() {
			t.Fatal(o)
		}
		checkGood(t, o, false)
	}
}

func TestP71LinesAreOnlyRead(t *testing.T) {
	for _, o := range slices.Concat(randomOver(7100000, 500), refusedLines(t)) {
		cantus, checkBelow := lendPitches(o.cantus)
		line, checkAbove := lendPitches(o.line)
		checkGood(t, overCantus{o.fifths, cantus, line}, o.isValid() && len(o.wantedFaults()) == 0)
		checkBelow(t)
		checkAbove(t)
	}
}
