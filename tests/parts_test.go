package tests

import (
	"math/rand/v2"
	"slices"
	"strings"
	"testing"

	"loop.example/musicengine/impl"
)

// voiceLimits are the chapter's least and greatest keys of the voices, from the lowest voice on, written out again so that the tests do not depend on the program's table.
var voiceLimits = [][2]int{{28, 48}, {36, 55}, {43, 62}, {48, 67}}

// voicePairs are all pairs of voices, the lower one first.
var voicePairs = [][2]int{{0, 1}, {0, 2}, {0, 3}, {1, 2}, {1, 3}, {2, 3}}

// faultsByName are the codes, as the texts of cases write them.
var faultsByName = map[string]int{
	"": 0, "voices": impl.FaultVoices, "crossing": impl.FaultCrossing, "spacing": impl.FaultSpacing, "range": impl.FaultRange,
	"fifths": impl.FaultFifths, "octaves": impl.FaultOctaves, "leap": impl.FaultLeap,
}

// spelledKeys are all valid pitches, by their keys.
func spelledKeys() map[int][]impl.Pitch {
	spelled := map[int][]impl.Pitch{}
	for _, p := range allPitches() {
		spelled[keyOf(p)] = append(spelled[keyOf(p)], p)
	}
	return spelled
}

// withKeys are pitches with these keys, each spelled in one of the possible ways.
func withKeys(spelled map[int][]impl.Pitch, keys []int) []impl.Pitch {
	var list []impl.Pitch
	for at, key := range keys {
		ways := spelled[key]
		list = append(list, ways[(at+key+len(keys))%len(ways)])
	}
	return list
}

// keysIn are the keys of valid pitches.
func keysIn(list []impl.Pitch) []int {
	var keys []int
	for _, p := range list {
		keys = append(keys, keyOf(p))
	}
	return keys
}

// fourAreValid tells whether there are four valid pitches.
func fourAreValid(list []impl.Pitch) bool {
	return len(list) == 4 && pitchIsValid(list[0]) && pitchIsValid(list[1]) && pitchIsValid(list[2]) && pitchIsValid(list[3])
}

// stackFaultOf is the first fault of pitches, counted without the program.
func stackFaultOf(list []impl.Pitch) int {
	if !fourAreValid(list) {
		return impl.FaultVoices
	}
	bass, tenor, alto, soprano := keyOf(list[0]), keyOf(list[1]), keyOf(list[2]), keyOf(list[3])
	if bass > tenor || tenor > alto || alto > soprano {
		return impl.FaultCrossing
	}
	if alto-tenor >= 13 || soprano-alto >= 13 {
		return impl.FaultSpacing
	}
	for voice, key := range []int{bass, tenor, alto, soprano} {
		if key < voiceLimits[voice][0] || key > voiceLimits[voice][1] {
			return impl.FaultRange
		}
	}
	return 0
}

// upwards is the way up from the key of the lower voice to that of the higher one, without octaves.
func upwards(low int, high int) int {
	for high < low {
		high += 12
	}
	for high-low >= 12 {
		high -= 12
	}
	return high - low
}

// parallelsOf tells whether a pair of voices moves in parallels, so many half tones apart.
func parallelsOf(a []impl.Pitch, b []impl.Pitch, pair [2]int, halves int) bool {
	lowFrom, highFrom := keyOf(a[pair[0]]), keyOf(a[pair[1]])
	lowTo, highTo := keyOf(b[pair[0]]), keyOf(b[pair[1]])
	together := lowFrom < lowTo && highFrom < highTo || lowFrom > lowTo && highFrom > highTo
	return together && upwards(lowFrom, highFrom) == halves && upwards(lowTo, highTo) == halves
}

// moveFaultOf is the first fault of a way, counted without the program.
func moveFaultOf(a []impl.Pitch, b []impl.Pitch) int {
	if !fourAreValid(a) || !fourAreValid(b) {
		return impl.FaultVoices
	}
	for _, pair := range voicePairs {
		if parallelsOf(a, b, pair, 7) {
			return impl.FaultFifths
		}
	}
	for _, pair := range voicePairs {
		if parallelsOf(a, b, pair, 0) {
			return impl.FaultOctaves
		}
	}
	for voice := range a {
		if way := keyOf(b[voice]) - keyOf(a[voice]); way >= 13 || way <= -13 {
			return impl.FaultLeap
		}
	}
	return 0
}

// partsFaultsOf are the faults of chords, counted without the program.
func partsFaultsOf(list [][]impl.Pitch) []impl.Fault {
	var faults []impl.Fault
	if len(list) >= 9 {
		return nil
	}
	for at := range list {
		codes := []int{stackFaultOf(list[at])}
		if at > 0 {
			codes = append(codes, moveFaultOf(list[at-1], list[at]))
		}
		for _, code := range codes {
			if code != 0 {
				faults = append(faults, impl.Fault{At: at, Code: code})
			}
		}
	}
	return faults
}

// checkStack fails unless pitches, which may be invalid, have this fault.
func checkStack(t *testing.T, list []impl.Pitch, want int) {
	t.Helper()
	if fault := impl.StackFault(list); fault != want {
		t.Fatal(list, fault, want)
	}
}

// checkMove fails unless a way, which may be invalid, has this fault, and the way back has the same one.
func checkMove(t *testing.T, a []impl.Pitch, b []impl.Pitch, want int) {
	t.Helper()
	there, back := impl.MoveFault(a, b), impl.MoveFault(b, a)
	if there != want || back != want {
		t.Fatal(a, b, there, back, want)
	}
}

// checkParts fails unless chords, which may be invalid, have these faults.
func checkParts(t *testing.T, list [][]impl.Pitch, want []impl.Fault) {
	t.Helper()
	if faults := impl.PartsFaults(list); !slices.Equal(faults, want) {
		t.Fatal(list, faults, want)
	}
}

// stacksOf reads chords, divided by bars.
func stacksOf(t *testing.T, text string) [][]impl.Pitch {
	t.Helper()
	var list [][]impl.Pitch
	for _, stack := range strings.Split(text, "|") {
		list = append(list, pitchesOf(t, stack))
	}
	return list
}

// oddCounts are the numbers of pitches, other than four, that are tried.
var oddCounts = []int{0, 1, 2, 3, 5, 6, 8, 12, 13, 60, 256, 256 + 4, 1<<16 + 4}

// randomStacks are four valid pitches each, always the same ones: many have no fault, some are anywhere.
func randomStacks(source *rand.Rand, spelled map[int][]impl.Pitch, count int) [][]impl.Pitch {
	pitches := allPitches()
	var list [][]impl.Pitch
	for round := range count {
		var stack []impl.Pitch
		for _, limits := range voiceLimits {
			ways := spelled[limits[0]+source.IntN(limits[1]-limits[0]+1)]
			if round%10 == 0 {
				ways = pitches
			}
			stack = append(stack, ways[source.IntN(len(ways))])
		}
		if round%3 == 0 {
			slices.SortFunc(stack, func(a impl.Pitch, b impl.Pitch) int { return keyOf(a) - keyOf(b) })
		}
		list = append(list, stack)
	}
	return list
}

// fewStacks are chords of all sorts: without a fault, with each one, and invalid ones.
func fewStacks(t *testing.T) [][]impl.Pitch {
	t.Helper()
	list := stacksOf(t, "C3 G3 E4 C5|D3 A3 F4 D5|C3 E4 G4 C5|E2 C3 G3 C4|C4 G4 D5 G5|C4 C4 C4 C4|D3 F3 A4 D5|C4 B3 E4 C5|C3 C3 C#4 C5|C2 G3 E4 C5|C3 G3 E4|C3 G3 E4 C5 C6|Cbb0 Cbb0 Cbb0 Cbb0|B##8 B##8 B##8 B##8")
	return append(list, nil, []impl.Pitch{}, append(pitchesOf(t, "C3 G3 E4"), impl.Pitch{Step: 7, Octave: 4}), make([]impl.Pitch, 4), slices.Repeat([]impl.Pitch{{Octave: 9}}, 4))
}

func TestP64FaultsHaveNumbers(t *testing.T) {
	faults := []int{0, impl.FaultVoices, impl.FaultCrossing, impl.FaultSpacing, impl.FaultRange, impl.FaultFifths, impl.FaultOctaves, impl.FaultLeap}
	for at, fault := range faults {
		if fault != at {
			t.Fatal(at, fault)
		}
	}
}

// TestP64FourVoicesHavePlaces tries all keys within the ranges of the voices and two half tones beyond.
func TestP64FourVoicesHavePlaces(t *testing.T) {
	spelled, counts := spelledKeys(), map[int]int{}
	stack := make([]impl.Pitch, 4)
	var place func(voice int, below int)
	place = func(voice int, below int) {
		if voice < 4 {
			for key := 26; key <= 69; key++ {
				ways := spelled[key]
				stack[voice] = ways[(voice+key+below)%len(ways)]
				place(voice+1, key)
			}
			return
		}
		want := stackFaultOf(stack)
		checkStack(t, stack, want)
		counts[want]++
		if want != 0 {
			return
		}
		keys := keysIn(stack)
		if !slices.IsSorted(keys) || keys[0] < 28 || keys[3] > 67 {
			t.Fatal(stack)
		}
	}
	place(0, 0)
	for _, fault := range []int{0, impl.FaultCrossing, impl.FaultSpacing, impl.FaultRange} {
		if counts[fault] < 1000 {
			t.Fatal(counts)
		}
	}
}

func TestP64StacksByText(t *testing.T) {
	cases := []struct{ text, fault string }{
		{"C3 G3 E4 C5", ""},
		{"C3 E4 G4 C5", ""},
		{"C3 G3 E4 F4", ""},
		{"C4 C4 C4 C4", ""}, // equal keys do not cross
		{"C4 B#3 Dbb4 C4", ""},
		{"B3 Cb4 B3 C4", ""},
		{"C4 B3 C4 C4", "crossing"}, // by one half tone, of each pair
		{"C4 Cb4 C4 C4", "crossing"},
		{"C3 C4 B3 C4", "crossing"},
		{"C3 C4 C#4 C4", "crossing"},
		{"C3 C4 Db4 C4", "crossing"},
		{"C3 C4 B##3 C4", "crossing"},
		{"C4 G3 E4 C5", "crossing"},
		{"C5 E4 G3 C3", "crossing"},
		{"C3 C3 C4 C5", ""}, // an octave is not too far
		{"C3 C3 B#3 B#4", ""},
		{"C3 C3 C#4 C5", "spacing"},
		{"C3 C3 Db4 C5", "spacing"},
		{"C3 C4 C4 C#5", "spacing"},
		{"C3 C4 C4 B##4", "spacing"},
		{"C3 C3 E4 C5", "spacing"},
		{"E2 G4 D5 G5", ""}, // the lowest two may be far apart
		{"E2 C4 C4 C4", ""},
		{"E2 C3 G3 C4", ""}, // both ends of each range
		{"C4 G4 D5 G5", ""},
		{"D#2 C3 G3 C4", "range"},
		{"Fb2 C3 G3 C4", ""},
		{"Fbb2 C3 G3 C4", "range"},
		{"E2 B2 G3 C4", "range"},
		{"E2 B#2 G3 C4", ""},
		{"E2 C3 F#3 C4", "range"},
		{"E2 C3 G3 B3", "range"},
		{"C#4 G4 D5 G5", "range"},
		{"C4 G#4 D5 G5", "range"},
		{"C4 Abb4 D5 G5", ""},
		{"C4 G4 D#5 G5", "range"},
		{"C4 G4 D5 G#5", "range"},
		{"C4 G4 D5 Ab5", "range"},
		{"C2 G3 E4 C5", "range"},
		{"C3 C4 B3 C5", "crossing"}, // two faults: crossing, and too far apart
		{"C4 B3 C5 C5", "crossing"},
		{"C2 B1 G3 C4", "crossing"}, // crossing, and out of range
		{"C#4 C4 D4 G4", "crossing"},
		{"E2 D#2 C5 G#6", "crossing"}, // all three
		{"C2 C3 C#4 C5", "spacing"},   // too far apart, and out of range
		{"E2 B2 C4 C4", "spacing"},
		{"C0 C4 D6 C8", "spacing"},
		{"C4 G4 D5 D#6", "spacing"},
		{"Cbb0 Cbb0 Cbb0 Cbb0", "range"}, // keys below 0
		{"B##8 B##8 B##8 B##8", "range"}, // keys beyond the last one
		{"Cbb0 Cb0 C0 C#0", "range"},
		{"Cb0 Cbb0 C0 C0", "crossing"},
		{"", "voices"},
		{"C3", "voices"},
		{"C3 G3 E4", "voices"},
		{"C4 B3 E4", "voices"},
		{"C3 G3 E4 C5 C5", "voices"},
		{"C4 B3 C6 C7 C8", "voices"},
	}
	for _, c := range cases {
		checkStack(t, pitchesOf(t, c.text), faultsByName[c.fault])
	}
}

// TestP64RangesHaveEnds moves each voice alone to both ends of its range and one half tone beyond.
func TestP64RangesHaveEnds(t *testing.T) {
	spelled := spelledKeys()
	// Within these keys every voice reaches its limits without another fault.
	low, high := []int{28, 36, 43, 48}, []int{48, 55, 62, 67}
	for voice := range 4 {
		for _, p := range spelled[voiceLimits[voice][0]] {
			stack := withKeys(spelled, low)
			stack[voice] = p
			checkStack(t, stack, 0)
		}
		for _, p := range spelled[voiceLimits[voice][0]-1] {
			stack := withKeys(spelled, low)
			stack[voice] = p
			checkStack(t, stack, impl.FaultRange)
		}
		for _, p := range spelled[voiceLimits[voice][1]] {
			stack := withKeys(spelled, high)
			stack[voice] = p
			checkStack(t, stack, 0)
		}
		for _, p := range spelled[voiceLimits[voice][1]+1] {
			stack := withKeys(spelled, high)
			stack[voice] = p
			checkStack(t, stack, impl.FaultRange)
		}
	}
}

// TestP64KeysAloneMatter spells the same keys in all possible ways.
func TestP64KeysAloneMatter(t *testing.T) {
	spelled := spelledKeys()
	for _, keys := range [][]int{{28, 36, 43, 48}, {48, 55, 62, 67}, {48, 48, 48, 48}, {36, 43, 52, 60}, {47, 47, 48, 48}, {48, 47, 48, 48}, {36, 36, 48, 60}, {36, 36, 49, 60}, {36, 48, 48, 61}, {27, 36, 43, 48}, {48, 55, 62, 68}} {
		want := stackFaultOf(withKeys(spelled, keys))
		for _, bass := range spelled[keys[0]] {
			for _, tenor := range spelled[keys[1]] {
				for _, alto := range spelled[keys[2]] {
					for _, soprano := range spelled[keys[3]] {
						checkStack(t, []impl.Pitch{bass, tenor, alto, soprano}, want)
					}
				}
			}
		}
	}
}

func TestP64RandomStacks(t *testing.T) {
	source := rand.New(rand.NewPCG(12, 64))
	good := 0
	for _, stack := range randomStacks(source, spelledKeys(), 50000) {
		fault := stackFaultOf(stack)
		checkStack(t, stack, fault)
		if fault == 0 {
			good++
		}
	}
	if good < 5000 {
		t.Fatal(good)
	}
}

func TestP64AVoiceLessIsAFault(t *testing.T) {
	source := rand.New(rand.NewPCG(12, 640))
	for _, stack := range randomStacks(source, spelledKeys(), 3000) {
		for voice := range 4 {
			checkStack(t, slices.Delete(slices.Clone(stack), voice, voice+1), impl.FaultVoices)
			checkStack(t, slices.Insert(slices.Clone(stack), voice, stack[voice]), impl.FaultVoices)
		}
		checkStack(t, stack[:3], impl.FaultVoices)
		checkStack(t, append(slices.Clone(stack), stack[3]), impl.FaultVoices)
	}
}

func TestP64OtherCountsAreAFault(t *testing.T) {
	checkStack(t, nil, impl.FaultVoices)
	checkStack(t, []impl.Pitch{}, impl.FaultVoices)
	for _, text := range []string{"C3 G3 E4 C5", "C4 C4 C4 C4", "C5 C4 C3 C2"} {
		for _, count := range oddCounts {
			checkStack(t, slices.Repeat(pitchesOf(t, text), count)[:count], impl.FaultVoices)
		}
	}
}

func TestP64OtherPitchesAreAFault(t *testing.T) {
	for _, text := range []string{"C3 G3 E4 C5", "C4 C4 C4 C4", "C4 B3 C5 C7"} {
		good := pitchesOf(t, text)
		for _, bad := range badPitches() {
			for voice := range 4 {
				stack := slices.Clone(good)
				stack[voice] = bad
				checkStack(t, stack, impl.FaultVoices)
				checkStack(t, append(stack, good[3]), impl.FaultVoices)
			}
			checkStack(t, slices.Repeat([]impl.Pitch{bad}, 4), impl.FaultVoices)
			checkStack(t, []impl.Pitch{good[0], good[1], good[2], good[3], bad}, impl.FaultVoices)
			checkStack(t, []impl.Pitch{bad}, impl.FaultVoices)
		}
	}
}

func TestP64StacksAreOnlyRead(t *testing.T) {
	for _, stack := range fewStacks(t) {
		lentStack, check := lendPitches(stack)
		checkStack(t, lentStack, stackFaultOf(stack))
		check(t)
	}
}

func TestP65StayingVoicesHaveNoFault(t *testing.T) {
	source := rand.New(rand.NewPCG(12, 65))
	for _, stack := range randomStacks(source, spelledKeys(), 20000) {
		checkMove(t, stack, stack, 0)
		checkMove(t, stack, slices.Clone(stack), 0)
	}
	for _, p := range allPitches() {
		four := slices.Repeat([]impl.Pitch{p}, 4)
		checkMove(t, four, four, 0)
	}
}

// TestP65OtherNamesAreNoMoves spells the same keys in other ways, which is no move.
func TestP65OtherNamesAreNoMoves(t *testing.T) {
	spelled := spelledKeys()
	for _, keys := range [][]int{{36, 43, 52, 60}, {48, 48, 48, 48}, {40, 47, 59, 66}, {60, 53, 41, 29}} {
		want := withKeys(spelled, keys)
		for voice, key := range keys {
			for _, p := range spelled[key] {
				other := slices.Clone(want)
				other[voice] = p
				checkMove(t, want, other, 0)
				// One of two voices stays, whatever its name is.
				for _, pair := range voicePairs {
					if pair[0] != voice && pair[1] != voice {
						continue
					}
					moved := slices.Clone(other)
					further := pair[0] + pair[1] - voice
					moved[further] = spelled[keys[further]+12][0]
					checkMove(t, want, moved, 0)
				}
			}
		}
	}
}

// TestP65ParallelsOfEveryPair moves two voices alone, in all directions, as far as beyond an octave, from everywhere to everywhere near.
func TestP65ParallelsOfEveryPair(t *testing.T) {
	spelled, counts := spelledKeys(), map[int]int{}
	for _, pair := range voicePairs {
		for apart := -30; apart <= 30; apart++ {
			for lowBy := -14; lowBy <= 14; lowBy++ {
				for highBy := -14; highBy <= 14; highBy++ {
					// The other voices stay, so that they have no parallels with any voice.
					from := []int{52, 52, 52, 52}
					from[pair[1]] += apart
					to := slices.Clone(from)
					to[pair[0]] += lowBy
					to[pair[1]] += highBy
					a, b := withKeys(spelled, from), withKeys(spelled, to)
					want := pairFault(apart, lowBy, highBy)
					checkMove(t, a, b, want)
					counts[want]++
				}
			}
		}
	}
	for _, fault := range []int{0, impl.FaultFifths, impl.FaultOctaves, impl.FaultLeap} {
		if counts[fault] < 1000 {
			t.Fatal(counts)
		}
	}
}

// pairFault is the fault of two voices alone, so many half tones apart, that move by so many.
func pairFault(apart int, lowBy int, highBy int) int {
	// Voices that move by as much, but for octaves, stay as far apart.
	if lowBy*highBy > 0 && (highBy-lowBy)%12 == 0 {
		switch apart {
		case -29, -17, -5, 7, 19:
			return impl.FaultFifths
		case -24, -12, 0, 12, 24:
			return impl.FaultOctaves
		}
	}
	if lowBy > 12 || lowBy < -12 || highBy > 12 || highBy < -12 {
		return impl.FaultLeap
	}
	return 0
}

func TestP65MovesByText(t *testing.T) {
	cases := []struct{ from, to, fault string }{
		{"C3 G3 E4 C5", "C3 G3 E4 C5", ""},
		{"C3 G3 E4 C5", "D3 A3 F4 D5", "fifths"},   // and octaves
		{"C3 G3 E4 C5", "D3 A3 F4 B4", "fifths"},   // the lowest pair
		{"C3 E3 G4 C5", "D3 F3 A4 B4", "fifths"},   // an octave farther apart
		{"C3 E3 E4 G5", "D3 D3 D4 A5", "fifths"},   // two octaves farther apart
		{"A2 C3 G3 E4", "G2 D3 A3 E4", "fifths"},   // the middle pair
		{"A2 C3 E3 G4", "G2 D3 E3 A4", "fifths"},   // the second and the highest one
		{"A2 E3 C4 G4", "G2 E3 D4 A4", "fifths"},   // the highest pair
		{"D3 A3 F4 B4", "C3 G3 E4 C5", "fifths"},   // downwards
		{"C3 F3 A4 C5", "D3 F3 A4 D5", "octaves"},  // the outer pair
		{"C3 C3 A4 E5", "D3 D3 A4 E5", "octaves"},  // in the same octave
		{"C3 C4 A4 E5", "D3 D4 A4 E5", "octaves"},  // in the next one
		{"C3 E3 C5 E5", "B2 E3 B4 E5", "octaves"},  // two octaves apart, downwards
		{"C3 C5 G4 E5", "D3 D4 G4 E5", ""},         // in opposite directions
		{"C3 C4 G4 E5", "D3 D5 G4 E5", "octaves"},  // to the next octave, with a leap that counts later
		{"C3 C4 G4 E5", "D4 D4 G4 E5", "octaves"},  // to the same one
		{"C3 G3 E4 C5", "G3 G3 D5 C5", ""},         // a voice that stays has no parallels
		{"C3 G3 E4 C5", "B2 G3 D4 C5", ""},         // other distances have none
		{"C3 E3 A4 C5", "D3 F3 B4 E5", ""},         // thirds and sixths
		{"C3 F3 A4 B4", "D3 G3 B4 E5", ""},         // fourths upwards
		{"C3 F#3 A4 B4", "D3 A3 A4 B4", ""},        // from a diminished fifth
		{"C3 G3 A4 B4", "D3 Ab3 A4 B4", ""},        // to one
		{"C3 Abb3 A4 B4", "D3 A3 A4 B4", "fifths"}, // keys alone matter
		{"C3 F##3 A4 B4", "D3 Bbb3 A4 B4", "fifths"},
		{"C3 B#3 G4 E5", "D3 Ebb4 G4 E5", "octaves"},
		{"C3 B#3 G4 E5", "B#2 C4 G4 E5", ""},       // other names are no moves
		{"C3 C4 G4 E5", "C3 Db4 G4 E5", ""},        // from an octave, of which one stays
		{"C3 C4 G4 E5", "D3 C#4 G4 E5", ""},        // to a seventh
		{"G3 C3 A4 B4", "A3 D3 A4 B4", ""},         // the lower voice is higher: a fifth below is a fourth above
		{"F3 C3 A4 B4", "G3 D3 A4 B4", "fifths"},   // and a fourth below is a fifth above
		{"C4 C3 A4 B4", "D4 D3 A4 B4", "octaves"},  // and an octave an octave
		{"F3 C3 A4 B4", "D3 A3 A4 B4", ""},         // they cross, but in opposite directions
		{"F3 C3 A4 B4", "G3 D4 A4 B4", "fifths"},   // a fourth below, and then a fifth above, with a leap that counts later
		{"G3 C3 A4 B4", "A3 D4 A4 B4", "leap"},     // a fifth below, and then a fourth above
		{"C3 G3 C4 C5", "D3 A3 D4 B4", "fifths"},   // fifths of the lowest pair, octaves of a later one
		{"C3 C4 G4 C5", "D3 D4 A4 B4", "fifths"},   // octaves of the lowest pair, fifths of a later one
		{"C3 C4 E4 B4", "D3 D4 F#4 C#5", "fifths"}, // octaves of the lowest pair, fifths of the highest one
		{"E2 C3 C4 C5", "F2 D3 D4 D5", "octaves"},
		{"C3 G3 E4 C5", "C3 G3 E4 C6", ""}, // a leap of an octave
		{"C3 G3 E4 C5", "C3 G3 E4 C#6", "leap"},
		{"C3 G3 E4 C5", "C3 G3 E4 C4", ""},
		{"C3 G3 E4 C5", "C3 G3 E4 B3", "leap"},
		{"C3 G3 E4 C5", "C3 G3 E4 B#5", ""},
		{"C3 G3 E4 C5", "C3 G3 E4 B##5", "leap"},
		{"C3 G3 E4 C5", "C4 G3 E4 C5", ""},
		{"C3 G3 E4 C5", "C#4 G3 E4 C5", "leap"},
		{"C3 G3 E4 C5", "C3 F#2 E4 C5", "leap"},
		{"C3 G3 E4 C5", "C3 G3 F5 C5", "leap"},
		{"C3 G3 E4 C5", "D4 A4 E4 C5", "fifths"},  // and leaps of both
		{"C3 C4 E4 C5", "D4 D5 E4 C5", "octaves"}, // and leaps of both
		{"C3 C4 E4 B4", "D3 D4 E4 C8", "octaves"}, // and the leap of another voice
		{"Cbb0 Cbb0 C8 C8", "B##8 B##8 C8 C8", "octaves"},
		{"Cbb0 C0 C0 B##8", "B##8 C0 C0 Cbb0", "leap"},
		{"C3 G3 E4 C5", "", "voices"},
		{"C3 G3 E4 C5", "C3 G3 E4", "voices"},
		{"C3 G3 E4 C5", "C3 G3 E4 C5 C6", "voices"},
		{"C3 G3 E4", "C3 G3 E4", "voices"},
		{"C3 G3 E4 C5 C6", "D3 A3 F4 D5 D6", "voices"},
		{"C3 C4 C5", "D3 D4 D6", "voices"},
		{"", "", "voices"},
	}
	for _, c := range cases {
		a, b := pitchesOf(t, c.from), pitchesOf(t, c.to)
		if want := moveFaultOf(a, b); want != faultsByName[c.fault] {
			t.Fatal(c, want)
		}
		checkMove(t, a, b, faultsByName[c.fault])
	}
}

// TestP65ParallelsOfSeveralPairs moves all voices, so that fifths, octaves and leaps meet in all orders.
func TestP65ParallelsOfSeveralPairs(t *testing.T) {
	spelled, counts := spelledKeys(), map[int]int{}
	apart, by := []int{0, 4, 7, 12, 19, -5, -7}, []int{-13, -2, 0, 2, 12}
	both := 0
	for number := range 7 * 7 * 7 * 5 * 5 * 5 * 5 {
		from := []int{48, 48, 48, 48}
		for voice := 1; voice < 4; voice++ {
			from[voice] += apart[number%7]
			number /= 7
		}
		to := slices.Clone(from)
		for voice := range to {
			to[voice] += by[number%5]
			number /= 5
		}
		a, b := withKeys(spelled, from), withKeys(spelled, to)
		want := moveFaultOf(a, b)
		checkMove(t, a, b, want)
		counts[want]++
		if want == impl.FaultFifths && slices.ContainsFunc(voicePairs, func(pair [2]int) bool { return parallelsOf(a, b, pair, 0) }) {
			both++
		}
	}
	if counts[0] < 1000 || counts[impl.FaultFifths] < 1000 || counts[impl.FaultOctaves] < 1000 || counts[impl.FaultLeap] < 1000 || both < 1000 {
		t.Fatal(counts, both)
	}
}

func TestP65LeapsOfEveryVoice(t *testing.T) {
	spelled := spelledKeys()
	for voice := range 4 {
		for by := -30; by <= 30; by++ {
			from := []int{40, 46, 55, 65}
			to := slices.Clone(from)
			to[voice] += by
			want := 0
			if by < -12 || by > 12 {
				want = impl.FaultLeap
			}
			for _, p := range spelled[to[voice]] {
				a, b := withKeys(spelled, from), withKeys(spelled, to)
				b[voice] = p
				checkMove(t, a, b, want)
			}
		}
	}
}

func TestP65RandomMoves(t *testing.T) {
	source := rand.New(rand.NewPCG(12, 650))
	stacks := randomStacks(source, spelledKeys(), 3000)
	counts := map[int]int{}
	for range 300000 {
		a, b := stacks[source.IntN(len(stacks))], stacks[source.IntN(len(stacks))]
		want := moveFaultOf(a, b)
		checkMove(t, a, b, want)
		counts[want]++
	}
	for _, fault := range []int{0, impl.FaultFifths, impl.FaultOctaves, impl.FaultLeap} {
		if counts[fault] < 1000 {
			t.Fatal(counts)
		}
	}
}

// TestP65MovedStacks moves all voices by as much: the parallels are those of the chord.
func TestP65MovedStacks(t *testing.T) {
	source := rand.New(rand.NewPCG(12, 6500))
	spelled := spelledKeys()
	for _, stack := range randomStacks(source, spelled, 3000) {
		want := 0
		for _, pair := range voicePairs {
			switch apart := upwards(keyOf(stack[pair[0]]), keyOf(stack[pair[1]])); {
			case apart == 7:
				want = impl.FaultFifths
			case apart == 0 && want == 0:
				want = impl.FaultOctaves
			}
		}
		for _, by := range []int{-13, -12, -7, -2, -1, 1, 2, 5, 12, 13} {
			to := keysIn(stack)
			for voice := range to {
				to[voice] += by
			}
			if slices.Min(to) < 0 || slices.Max(to) > 107 {
				continue
			}
			fault := want
			if fault == 0 && (by < -12 || by > 12) {
				fault = impl.FaultLeap
			}
			checkMove(t, stack, withKeys(spelled, to), fault)
		}
	}
}

func TestP65OtherCountsAreAFault(t *testing.T) {
	four := pitchesOf(t, "C3 G3 E4 C5")
	for _, count := range oddCounts {
		other := slices.Repeat(four, count)[:count]
		checkMove(t, four, other, impl.FaultVoices)
		checkMove(t, other, other, impl.FaultVoices)
	}
	checkMove(t, nil, nil, impl.FaultVoices)
	checkMove(t, nil, four, impl.FaultVoices)
	checkMove(t, []impl.Pitch{}, nil, impl.FaultVoices)
}

func TestP65OtherPitchesAreAFault(t *testing.T) {
	// The second chord has fifths, octaves and a leap, before which the invalid pitch counts.
	four, further := pitchesOf(t, "C3 G3 E4 C5"), pitchesOf(t, "D3 A3 F6 D5")
	for _, bad := range badPitches() {
		for voice := range 4 {
			with := slices.Clone(four)
			with[voice] = bad
			checkMove(t, four, with, impl.FaultVoices)
			checkMove(t, with, with, impl.FaultVoices)
			checkMove(t, further, with, impl.FaultVoices)
		}
		checkMove(t, four, slices.Repeat([]impl.Pitch{bad}, 4), impl.FaultVoices)
		checkMove(t, append(slices.Clone(four), bad), four, impl.FaultVoices)
	}
}

func TestP65StacksAreOnlyRead(t *testing.T) {
	for _, from := range fewStacks(t) {
		for _, to := range fewStacks(t) {
			a, checkFrom := lendPitches(from)
			b, checkTo := lendPitches(to)
			checkMove(t, a, b, moveFaultOf(from, to))
			checkFrom(t)
			checkTo(t)
		}
	}
}

func TestP66PartsHaveALimit(t *testing.T) {
	if impl.MaxStacks != 8 {
		t.Fatal(impl.MaxStacks)
	}
}

func TestP66PartsByText(t *testing.T) {
	cases := []struct {
		text string
		want []impl.Fault
	}{
		{"C3 G3 E4 C5", nil},
		{"C3 G3 E4 C5|C3 G3 E4 C5|C3 G3 E4 C5", nil},
		{"C3 G3 E4 C5|F3 A3 F4 C5|G3 G3 D4 B4|C3 G3 E4 C5", nil},
		{"C3 G3 E4 C5|D3 A3 F4 D5", []impl.Fault{{At: 1, Code: impl.FaultFifths}}},
		{"C3 G3 E4", []impl.Fault{{At: 0, Code: impl.FaultVoices}}},
		{"C3 G3 E4 C5|D3 A3 F4 D5|C3 G3 E4", []impl.Fault{{At: 1, Code: impl.FaultFifths}, {At: 2, Code: impl.FaultVoices}, {At: 2, Code: impl.FaultVoices}}},
		{"C4 B3 E4 C5|C3 G3 E4 C5", []impl.Fault{{At: 0, Code: impl.FaultCrossing}}},
		{"C3 G3 E4 C5|C4 B3 E4 C5", []impl.Fault{{At: 1, Code: impl.FaultCrossing}}},
		{"C2 G3 E4 C5|D2 A3 F4 D5|C3 G3 E4 C5", []impl.Fault{{At: 0, Code: impl.FaultRange}, {At: 1, Code: impl.FaultRange}, {At: 1, Code: impl.FaultFifths}}},
		{"C3 G3 E4 C5|D3 A3 F4 D5|E3 B3 G4 E5", []impl.Fault{{At: 1, Code: impl.FaultFifths}, {At: 2, Code: impl.FaultFifths}}},
		{"C3 G3 E4 C5|C#4 G3 E4 C5", []impl.Fault{{At: 1, Code: impl.FaultCrossing}, {At: 1, Code: impl.FaultLeap}}},
		{"C3 C4 E4 C5|D3 D4 D4 E5", []impl.Fault{{At: 1, Code: impl.FaultSpacing}, {At: 1, Code: impl.FaultOctaves}}},
		{"C3 G3 E4||C3 G3 E4 C5", []impl.Fault{{At: 0, Code: impl.FaultVoices}, {At: 1, Code: impl.FaultVoices}, {At: 1, Code: impl.FaultVoices}, {At: 2, Code: impl.FaultVoices}}},
	}
	for _, c := range cases {
		checkParts(t, stacksOf(t, c.text), c.want)
	}
	checkParts(t, nil, nil)
	checkParts(t, [][]impl.Pitch{}, nil)
	checkParts(t, [][]impl.Pitch{nil}, []impl.Fault{{At: 0, Code: impl.FaultVoices}})
	checkParts(t, [][]impl.Pitch{nil, {}}, []impl.Fault{{At: 0, Code: impl.FaultVoices}, {At: 1, Code: impl.FaultVoices}, {At: 1, Code: impl.FaultVoices}})
}

// TestP66FaultsOfEveryTwoAndThree tries all lists of up to three of the few chords.
func TestP66FaultsOfEveryTwoAndThree(t *testing.T) {
	few := fewStacks(t)
	for _, first := range few {
		checkParts(t, [][]impl.Pitch{first}, partsFaultsOf([][]impl.Pitch{first}))
		for _, second := range few {
			list := [][]impl.Pitch{first, second}
			checkParts(t, list, partsFaultsOf(list))
			for _, third := range few {
				list := [][]impl.Pitch{first, second, third}
				checkParts(t, list, partsFaultsOf(list))
			}
		}
	}
}

// randomParts are lists of 0 to 10 chords, always the same ones.
func randomParts(t *testing.T) [][][]impl.Pitch {
	t.Helper()
	source := rand.New(rand.NewPCG(12, 66))
	few, stacks := fewStacks(t), randomStacks(source, spelledKeys(), 2000)
	var parts [][][]impl.Pitch
	for round := range 30000 {
		var list [][]impl.Pitch
		for range source.IntN(11) {
			from := stacks
			if round%2 == 0 && source.IntN(3) == 0 {
				from = few
			}
			list = append(list, from[source.IntN(len(from))])
		}
		parts = append(parts, list)
	}
	return parts
}

func TestP66RandomParts(t *testing.T) {
	good := 0
	for _, list := range randomParts(t) {
		want := partsFaultsOf(list)
		checkParts(t, list, want)
		if len(list) > 1 && len(list) < 9 && len(want) == 0 {
			good++
		}
	}
	if good < 20 {
		t.Fatal(good)
	}
}

func TestP66FaultsAreInOrder(t *testing.T) {
	for _, list := range randomParts(t) {
		faults := impl.PartsFaults(list)
		if len(list) > 8 {
			if len(faults) != 0 {
				t.Fatal(list, faults)
			}
			continue
		}
		for at, stack := range list {
			if code := impl.StackFault(stack); code != 0 {
				faults = takeFault(t, faults, impl.Fault{At: at, Code: code})
			}
			if at > 0 && impl.MoveFault(list[at-1], stack) != 0 {
				faults = takeFault(t, faults, impl.Fault{At: at, Code: impl.MoveFault(list[at-1], stack)})
			}
		}
		if len(faults) != 0 {
			t.Fatal(list, faults)
		}
	}
}

// takeFault fails unless the first one of faults is this one. It returns the others.
func takeFault(t *testing.T, faults []impl.Fault, want impl.Fault) []impl.Fault {
	t.Helper()
	if len(faults) == 0 || faults[0] != want {
		t.Fatal(faults, want)
	}
	return faults[1:]
}

func TestP66PartsOfParts(t *testing.T) {
	for _, list := range randomParts(t)[:3000] {
		if len(list) == 0 || len(list) > 8 {
			continue
		}
		faults := impl.PartsFaults(list)
		last := slices.IndexFunc(faults, func(f impl.Fault) bool { return f.At == len(list)-1 })
		if last < 0 {
			last = len(faults)
		}
		checkParts(t, list[:len(list)-1], faults[:last])
	}
}

func TestP66EightChordsAreTheMost(t *testing.T) {
	good := slices.Repeat(stacksOf(t, "C3 G3 E4 C5"), 20)
	bad := slices.Repeat(stacksOf(t, "C2 G3 E4 C5|D2 A3 F4 D5"), 10)
	none := make([][]impl.Pitch, 1<<16+20)
	for count := range 20 {
		wantBad, wantNone := []impl.Fault{}, []impl.Fault{}
		for at := range min(count, 8) {
			wantBad, wantNone = append(wantBad, impl.Fault{At: at, Code: impl.FaultRange}), append(wantNone, impl.Fault{At: at, Code: impl.FaultVoices})
			if at > 0 {
				wantBad, wantNone = append(wantBad, impl.Fault{At: at, Code: impl.FaultFifths}), append(wantNone, impl.Fault{At: at, Code: impl.FaultVoices})
			}
		}
		if count > 8 {
			wantBad, wantNone = nil, nil
		}
		checkParts(t, good[:count], nil)
		checkParts(t, bad[:count], wantBad)
		checkParts(t, none[:count], wantNone)
	}
	for _, count := range []int{60, 256, 256 + 8, 1 << 16, 1<<16 + 8} {
		checkParts(t, none[:count], nil)
	}
}

func TestP66OtherPitchesAreFaults(t *testing.T) {
	good := stacksOf(t, "C3 G3 E4 C5|C3 G3 E4 C5|C3 G3 E4 C5")
	for _, bad := range badPitches() {
		for at := range good {
			for _, voice := range []int{0, 3} {
				list := slices.Clone(good)
				list[at] = slices.Clone(good[at])
				list[at][voice] = bad
				want := []impl.Fault{{At: at, Code: impl.FaultVoices}}
				if at > 0 {
					want = append(want, impl.Fault{At: at, Code: impl.FaultVoices})
				}
				if at < 2 {
					want = append(want, impl.Fault{At: at + 1, Code: impl.FaultVoices})
				}
				checkParts(t, list, want)
			}
		}
	}
}

// lendParts returns chords with others around them and around their pitches, and a function that fails if one of them has changed.
func lendParts(list [][]impl.Pitch) ([][]impl.Pitch, func(t *testing.T)) {
	around := slices.Repeat([][]impl.Pitch{{{Step: 7}}}, 10)
	whole := slices.Concat(around[:2], list, around)
	var checks []func(t *testing.T)
	for at := range list {
		lentStack, check := lendPitches(list[at])
		whole[2+at] = lentStack
		checks = append(checks, check)
	}
	return whole[2 : 2+len(list)], func(t *testing.T) {
		t.Helper()
		for _, check := range checks {
			check(t)
		}
		if !slices.EqualFunc(whole, slices.Concat(around[:2], list, around), slices.Equal) {
			t.Fatal(whole, list)
		}
	}
}

func TestP66FaultsAreNewMemory(t *testing.T) {
	for _, list := range randomParts(t)[:500] {
		lentList, check := lendParts(list)
		first, second := impl.PartsFaults(lentList), impl.PartsFaults(lentList)
		want := partsFaultsOf(list)
		check(t)
		all := first[:cap(first)]
		for at := range all {
			all[at] = impl.Fault{At: -1, Code: -1}
		}
		check(t)
		if third := impl.PartsFaults(lentList); !slices.Equal(second, want) || !slices.Equal(third, want) {
			t.Fatal(list, second, third, want)
		}
	}
}
