package tests

import (
	"math"
	"math/rand/v2"
	"slices"
	"strconv"
	"strings"
	"testing"

	"loop.example/musicengine/impl"
)

// clashing tells of 0 to 11 half tones whether they are a dissonance, written out so that the tests do not depend on the program's numbers.
var clashing = []bool{false, true, true, false, false, true, true, false, false, false, true, true}

// tally counts how often something was so and how often it was not, because a test that only ever sees one of both shows little.
type tally struct {
	yes, no int
}

func (c *tally) add(so bool) {
	if so {
		c.yes++
	} else {
		c.no++
	}
}

// check fails unless both came often enough.
func (c tally) check(t *testing.T, least int) {
	t.Helper()
	if c.yes < least || c.no < least {
		t.Fatal(c)
	}
}

// knownIntervals are all valid ones.
var knownIntervals = validIntervals()

// duet is two voices that begin together; both may be invalid.
type duet struct {
	first, second []impl.Note
}

// meets calls the program.
func (d duet) meets() []int {
	return impl.MeetTicks(d.first, d.second)
}

// fault calls the program.
func (d duet) fault() int {
	return impl.MeetFault(d.first, d.second)
}

// swapped is the same with the voices in the other order.
func (d duet) swapped() duet {
	return duet{d.second, d.first}
}

func duetOf(t *testing.T, first string, second string) duet {
	t.Helper()
	return duet{notesOf(t, first), notesOf(t, second)}
}

// follower is a canon that is asked for: a voice, how many ticks later it comes again, and by which interval it is moved then; all of them may be invalid.
type follower struct {
	voice []impl.Note
	delay int
	by    impl.Interval
}

// canon calls the program.
func (f follower) canon() ([]impl.Note, bool) {
	return impl.CanonOf(f.voice, f.delay, f.by)
}

// followerOf reads a voice.
func followerOf(t *testing.T, voice string, delay int, steps int, halves int) follower {
	t.Helper()
	return follower{notesOf(t, voice), delay, impl.Interval{Steps: steps, Halves: halves}}
}

// ticksIn reads numbers.
func ticksIn(t *testing.T, text string) []int {
	t.Helper()
	var ticks []int
	for _, word := range strings.Fields(text) {
		tick, err := strconv.Atoi(word)
		if err != nil {
			t.Fatal(text, err)
		}
		ticks = append(ticks, tick)
	}
	return ticks
}

// numbersAt returns the number of the note of a voice at each of its ticks.
func numbersAt(v []impl.Note) []int {
	var list []int
	for at, n := range v {
		list = append(list, slices.Repeat([]int{at}, n.Ticks)...)
	}
	return list
}

// turnsAt reports whether the next one of some numbers begins at a tick, or they end there.
func turnsAt(numbers []int, tick int) bool {
	if tick == 0 || tick >= len(numbers) {
		return tick == len(numbers)
	}
	return numbers[tick] != numbers[tick-1]
}

// wantedMeets goes through two valid voices tick by tick.
func (d duet) wantedMeets() []int {
	first, second := numbersAt(d.first), numbersAt(d.second)
	var ticks []int
	for tick := range max(len(first), len(second)) {
		if tick == 0 || turnsAt(first, tick) || turnsAt(second, tick) {
			ticks = append(ticks, tick)
		}
	}
	return ticks
}

// clash reports whether two notes sound and are a dissonance.
func clash(a impl.Note, b impl.Note) bool {
	if a.Rest || b.Rest {
		return false
	}
	apart := keyOf(a.Tone) - keyOf(b.Tone)
	return clashing[max(apart, -apart)%12]
}

// wantedFault is the first of all ticks, where two valid voices meet or not, at which there is a dissonance.
func (d duet) wantedFault() int {
	first, second := numbersAt(d.first), numbersAt(d.second)
	for tick := range min(len(first), len(second)) {
		if clash(d.first[first[tick]], d.second[second[tick]]) {
			return tick
		}
	}
	return -1
}

// wanted is the canon, made without the program.
func (f follower) wanted() ([]impl.Note, bool) {
	_, known := knownIntervals[f.by]
	if !known || !voiceIsValid(f.voice) || len(f.voice) > 59 || f.delay < 1 || f.delay > 768 {
		return nil, false
	}
	moved, ok := movedOf(f.voice, f.by)
	if !ok {
		return nil, false
	}
	return slices.Concat([]impl.Note{{Rest: true, Ticks: f.delay}}, moved), true
}

// isSomeCanon tries all intervals.
func isSomeCanon(v []impl.Note, second []impl.Note) bool {
	if !voiceIsValid(second) || len(second) != len(v)+1 || !second[0].Rest {
		return false
	}
	for by := range knownIntervals {
		canon, ok := follower{v, second[0].Ticks, by}.wanted()
		if ok && slices.Equal(canon, second) {
			return true
		}
	}
	return false
}

// wantedDelays tries all delays, and all ticks for each of them.
func wantedDelays(v []impl.Note, grid int, by impl.Interval) []int {
	moved, ok := movedOf(v, by)
	if !ok || len(v) > 59 {
		return nil
	}
	numbers := numbersAt(v)
	clashes := func(delay int) bool {
		for tick := delay; tick < len(numbers); tick++ {
			if clash(v[numbers[tick]], moved[numbers[tick-delay]]) {
				return true
			}
		}
		return false
	}
	var delays []int
	for delay := 1; delay <= 768 && delay < len(numbers); delay++ {
		if delay%grid == 0 && !clashes(delay) {
			delays = append(delays, delay)
		}
	}
	return delays
}

// checkMeets fails unless two voices, in both orders, meet at the ticks that are wanted.
func checkMeets(t *testing.T, d duet, want []int) {
	t.Helper()
	if got := d.meets(); !slices.Equal(got, want) {
		t.Fatal(d, got, want)
	}
	if got := d.swapped().meets(); !slices.Equal(got, want) {
		t.Fatal("swapped", d, got, want)
	}
}

// checkMeetFault fails unless two voices, in both orders, have the fault that is wanted.
func checkMeetFault(t *testing.T, d duet, want int) {
	t.Helper()
	if got := d.fault(); got != want {
		t.Fatal(d, got, want)
	}
	if got := d.swapped().fault(); got != want {
		t.Fatal("swapped", d, got, want)
	}
}

// checkCanon fails unless the program returns the canon that is wanted, exactly if there is one. It returns whether there is one.
func checkCanon(t *testing.T, f follower) bool {
	t.Helper()
	canon, ok := f.canon()
	want, wantOk := f.wanted()
	if ok != wantOk || !slices.Equal(canon, want) {
		t.Fatal(f, canon, ok)
	}
	if ok && !impl.IsCanon(f.voice, canon) {
		t.Fatal(f, canon)
	}
	return ok
}

// checkNoCanon fails if there is one.
func checkNoCanon(t *testing.T, f follower) {
	t.Helper()
	if canon, ok := f.canon(); ok || len(canon) != 0 {
		t.Fatal(f, canon, ok)
	}
}

// checkIsCanon fails unless the program tells what is wanted of a second voice.
func checkIsCanon(t *testing.T, d duet, want bool) {
	t.Helper()
	if got := impl.IsCanon(d.first, d.second); got != want {
		t.Fatal(d, got)
	}
}

// checkDelays fails unless the program finds the delays that are wanted.
func checkDelays(t *testing.T, v []impl.Note, grid int, by impl.Interval, want []int) {
	t.Helper()
	if got := impl.CanonDelays(v, grid, by); !slices.Equal(got, want) {
		t.Fatal(v, grid, by, got, want)
	}
}

// eachShortDuet tries all pairs of short voices of notes near each other.
func eachShortDuet(t *testing.T, try func(d duet)) {
	t.Helper()
	var voices [][]impl.Note
	for _, v := range listsOf(notesOf(t, "C4/1 C4/2~ Db4/1 E4/3 r/1 r/2"), 3) {
		if voiceIsValid(v) {
			voices = append(voices, v)
		}
	}
	for _, a := range voices {
		for _, b := range voices {
			try(duet{a, b})
		}
	}
}

// longVoices have up to MaxNotes notes and as many ticks as these can have.
func longVoices(t *testing.T) [][]impl.Note {
	t.Helper()
	var list [][]impl.Note
	for _, ticks := range []int{1, 2, 3, 12, 767, 768} {
		list = append(list, tiedRun(60, ticks), slices.Repeat([]impl.Note{{Tone: impl.Pitch{Step: 2, Octave: 4}, Ticks: ticks}}, 60), slices.Repeat([]impl.Note{{Rest: true, Ticks: ticks}}, 60))
	}
	for _, text := range []string{"C4/1", "r/1", "D4/768", "r/768 F4/1", ""} {
		list = append(list, notesOf(t, text))
	}
	return list
}

// eachLongDuet tries all pairs of long voices, and pairs of random ones.
func eachLongDuet(t *testing.T, try func(d duet)) {
	t.Helper()
	voices := longVoices(t)
	for _, a := range voices {
		for _, b := range voices {
			try(duet{a, b})
		}
	}
	random := randomVoices()
	for at := range random {
		try(duet{random[at], random[(at+4)%len(random)]})
		try(duet{random[at], random[(at+1)%len(random)]})
	}
}

// sungTones are lists of tones: such as never clash, such as seldom do, and such as often do.
var sungTones = []string{"C4 E4 C5 E5 B#3 Fb4", "E4 G4 B4 E5", "C4 E4 G4 A4 C5", "C4 D4 E4 F4 G4 A4 B4 C5", "C0 Cb4 F#4 B8 D##3"}

// sungVoices are short voices of a few tones each, always the same ones for a seed, with rests and ties.
func sungVoices(t *testing.T, seed uint64, count int) [][]impl.Note {
	t.Helper()
	source := rand.New(rand.NewPCG(16, seed))
	var list [][]impl.Note
	for round := range count {
		tones := pitchesOf(t, sungTones[round%len(sungTones)])
		unit, rests := []int{1, 6, 12}[source.IntN(3)], source.Float64()/2
		var v []impl.Note
		for most := source.IntN(12); len(v) < most; {
			n := impl.Note{Tone: tones[source.IntN(len(tones))], Ticks: unit * (1 + source.IntN(4))}
			if last := len(v) - 1; last >= 0 && v[last].Tied {
				n.Tone = v[last].Tone
			} else if source.Float64() < rests {
				n = impl.Note{Rest: true, Ticks: n.Ticks}
			}
			n.Tied = !n.Rest && len(v)+1 < most && source.IntN(4) == 0
			v = append(v, n)
		}
		list = append(list, v)
	}
	return list
}

// beside are valid voices that stand beside an invalid one.
func beside(t *testing.T) [][]impl.Note {
	t.Helper()
	return [][]impl.Note{nil, {}, notesOf(t, "r/24"), notesOf(t, "C#4/48"), notesOf(t, "C4/24~ C4/24 r/1 D4/768"), tiedRun(60, 12)}
}

func TestP73VoicesMeetWhereSomethingBegins(t *testing.T) {
	eachShortDuet(t, func(d duet) {
		checkMeets(t, d, d.wantedMeets())
	})
	eachLongDuet(t, func(d duet) {
		checkMeets(t, d, d.wantedMeets())
	})
}

func TestP73TicksAscendAndNotesBeginThere(t *testing.T) {
	eachLongDuet(t, func(d duet) {
		ticks := d.meets()
		if len(d.first)+len(d.second) > 0 && (len(ticks) == 0 || ticks[0] != 0) {
			t.Fatal(d, ticks)
		}
		for at, tick := range ticks {
			if at > 0 && tick <= ticks[at-1] {
				t.Fatal(d, ticks)
			}
			begins := false
			for _, v := range [][]impl.Note{d.first, d.second} {
				begins = begins || impl.NoteAt(v, tick) != impl.NoteAt(v, tick-1)
			}
			// Something always goes on: that both have ended is no meeting.
			if !begins || impl.NoteAt(d.first, tick) == -1 && impl.NoteAt(d.second, tick) == -1 {
				t.Fatal(d, ticks, tick)
			}
		}
	})
}

// meetsByText are two voices and the ticks at which they meet.
var meetsByText = []struct{ first, second, ticks string }{
	{"", "", ""},
	{"", "C4/24", "0"},
	{"", "r/24", "0"},
	{"", "C4/24 r/24 D4/24", "0 24 48"},
	{"C4/24", "C4/24", "0"}, // of the same length
	{"C4/24", "r/24", "0"},
	{"r/24", "r/24", "0"},
	{"C4/48 D4/48", "E4/96", "0 48"},
	{"C4/48 D4/48", "E4/48 F4/48", "0 48"}, // both begin a note
	{"C4/48 D4/48", "E4/12", "0 12 48"},    // one ends in a note of the other one
	{"C4/48 D4/48", "E4/48", "0 48"},       // and where a note of it begins
	{"C4/48 D4/48 E4/48", "E4/48", "0 48 96"},
	{"C4/48 D4/48", "E4/95", "0 48 95"},
	{"C4/48 D4/48", "E4/97", "0 48 96"},
	{"C4/1", "C4/768", "0 1"},
	{"C4/1", "C4/767 C4/1", "0 1 767"},
	{"r/24 C4/24", "C4/48", "0 24"},
	{"r/24 C4/24", "C4/24 r/24", "0 24"},
	{"r/24 r/24", "r/24 r/24", "0 24"},
	{"r/24 r/24", "r/1", "0 1 24"},
	{"C4/24 r/24", "C4/36", "0 24 36"}, // a voice goes on while it rests at its end
	{"C4/24 r/24", "C4/48", "0 24"},
	{"C4/24 r/24", "C4/24", "0 24"},
	{"C4/24~ C4/24", "E4/48", "0 24"}, // a tied note begins, too
	{"C4/24~ C4/24", "E4/12~ E4/12~ E4/24", "0 12 24"},
	{"C4/24~ C4/24", "", "0 24"},
	{"C4/3 C4/3", "C4/2 C4/2 C4/2", "0 2 3 4"},
	{"C4/1 C4/1 C4/1", "C4/2 C4/2", "0 1 2 3"},
	{"C4/768 C4/768", "D4/1 r/768 D4/1", "0 1 768 769 770"},
}

func TestP73MeetsByText(t *testing.T) {
	for _, c := range meetsByText {
		checkMeets(t, duetOf(t, c.first, c.second), ticksIn(t, c.ticks))
	}
	checkMeets(t, duet{[]impl.Note{}, nil}, nil)
}

func TestP73FullVoicesMeet(t *testing.T) {
	var begins, later, shorter []int
	for number := range 60 {
		begins = append(begins, 768*number)
		later = append(later, 768*number, 768*number+1)
		shorter = append(shorter, 767*number, 768*number)
	}
	full, rests := slices.Repeat(tiedRun(1, 768), 60), slices.Repeat(notesOf(t, "r/768"), 60)
	checkMeets(t, duet{full, full}, begins)
	checkMeets(t, duet{full, rests}, begins)
	checkMeets(t, duet{full, nil}, begins)
	checkMeets(t, duet{full, slices.Concat(notesOf(t, "r/1"), full[:59])}, later) // the last one is its end
	shorter = append(shorter, 767*60)
	slices.Sort(shorter)
	checkMeets(t, duet{full, tiedRun(60, 767)}, slices.Compact(shorter))
}

func TestP73OtherVoicesMeetNowhere(t *testing.T) {
	for _, bad := range badVoices(t) {
		for _, v := range beside(t) {
			checkMeets(t, duet{bad, v}, nil)
		}
		checkMeets(t, duet{bad, bad}, nil)
	}
}

func TestP74DissonancesAreFound(t *testing.T) {
	eachShortDuet(t, func(d duet) {
		checkMeetFault(t, d, d.wantedFault())
	})
	eachLongDuet(t, func(d duet) {
		checkMeetFault(t, d, d.wantedFault())
	})
	var clashes tally
	voices := sungVoices(t, 74, 300)
	for at, v := range voices {
		for near := range 10 {
			d := duet{v, voices[(at+near)%len(voices)]}
			want := d.wantedFault()
			checkMeetFault(t, d, want)
			clashes.add(want != -1)
		}
	}
	clashes.check(t, 500)
}

func TestP74FaultsAreAtMeetings(t *testing.T) {
	voices := sungVoices(t, 174, 300)
	for at, v := range voices {
		d := duet{v, voices[(at+7)%len(voices)]}
		fault := d.fault()
		if fault != -1 && !slices.Contains(d.meets(), fault) {
			t.Fatal(d, fault)
		}
		for _, tick := range d.meets() {
			a, b := impl.NoteAt(d.first, tick), impl.NoteAt(d.second, tick)
			if a == -1 || b == -1 || fault != -1 && tick > fault {
				continue
			}
			if clash(d.first[a], d.second[b]) != (tick == fault) {
				t.Fatal(d, tick, fault)
			}
		}
	}
}

func TestP74AllPairsOfPitches(t *testing.T) {
	pitches := allPitches()
	for _, p := range pitches {
		for _, q := range pitches {
			a, b := impl.Note{Tone: p, Ticks: 24}, impl.Note{Tone: q, Ticks: 12}
			want := -1
			if clash(a, b) {
				want = 0
			}
			if got := impl.MeetFault([]impl.Note{a}, []impl.Note{b}); got != want {
				t.Fatal(p, q, got, want)
			}
		}
	}
}

// tonesFromC are tones above and below C4, and whether each of them clashes with that.
var tonesFromC = []struct {
	tone string
	bad  bool
}{
	{"C4", false}, {"C#4", true}, {"D4", true}, {"Eb4", false}, {"E4", false}, {"F4", true}, {"F#4", true}, {"G4", false}, {"Ab4", false}, {"A4", false}, {"Bb4", true}, {"B4", true},
	{"C5", false}, {"Db5", true}, {"D5", true}, {"D#5", false}, {"E5", false}, {"F5", true}, {"Gb5", true}, {"G5", false}, {"G#5", false}, {"A5", false}, {"A#5", true}, {"B5", true},
	{"C6", false}, {"C#6", true}, {"G6", false}, {"F6", true}, {"C8", false}, {"B8", true}, {"F8", true},
	{"B3", true}, {"Bb3", true}, {"A3", false}, {"G#3", false}, {"G3", true}, {"F#3", true}, {"F3", false}, {"E3", false}, {"Eb3", false}, {"D3", true}, {"C#3", true},
	{"C3", false}, {"B2", true}, {"Bb2", true}, {"A2", false}, {"G2", true}, {"F2", false}, {"C0", false}, {"G0", true}, {"F0", false}, {"C#0", true},
	{"B#3", false}, {"Dbb4", false}, {"B##3", true}, {"B#4", false}, {"Cb4", true}, {"Cb5", true}, {"E#4", true}, {"Fb4", false}, {"D##4", false}, {"Fbb4", false}, {"E##4", true}, {"Abb4", false}, {"F##4", false},
	{"Cbb0", true}, {"B##8", true},
}

func TestP74DissonancesByName(t *testing.T) {
	for _, c := range tonesFromC {
		want := -1
		if c.bad {
			want = 24
		}
		checkMeetFault(t, duetOf(t, "r/24 C4/24", "C4/24 "+c.tone+"/24"), want)
		checkMeetFault(t, duetOf(t, "C4/48", "C4/24 "+c.tone+"/1"), want)
	}
}

// meetFaultsByText are two voices and the tick of their first dissonance.
var meetFaultsByText = []struct {
	first, second string
	tick          int
}{
	{"", "", -1},
	{"", "C4/24", -1},
	{"C4/24", "C4/24", -1},
	{"C4/24", "D4/24", 0},
	{"C4/48 D4/48", "E4/96", 48},
	{"C4/48 D4/48", "E4/48 F4/48", -1},
	{"C4/48 D4/48", "D4/48 D4/48", 0},
	{"C4/48 D4/48", "E4/48 D4/47 E4/1", 95}, // at the last tick
	{"C4/48 D4/48", "E4/48 D4/48 E4/1", -1}, // behind the end of a voice
	{"C4/24", "E4/24 Db4/24", -1},
	{"C4/24", "E4/23 Db4/24", 23},
	{"C4/24", "r/24 Db4/24", -1},
	{"C4/24", "r/23 Db4/24", 23},
	{"C4/24 r/24", "r/24 Db4/24", -1}, // never both
	{"C4/24 r/24 C4/24", "r/24 Db4/24 r/24", -1},
	{"C4/24 r/24 C4/24", "r/24 Db4/25", 48},
	{"r/24", "Db0/24", -1}, // a rest is not C0
	{"C0/24", "Db0/24", 0},
	{"r/24 C0/24", "Db0/24 r/24", -1},
	{"r/24", "r/24", -1},
	{"r/24 C4/24", "r/24 Db4/24", 24},
	{"r/24 r/24", "Db0/48", -1},
	{"C4/24", "Db0/1 r/23", 0},
	{"C4/24~ C4/24", "C4/36 D4/1", 36}, // in a tied note that neither begins nor ends there
	{"C4/24~ C4/24", "E4/12~ E4/36", -1},
	{"C4/24~ C4/24", "E4/24 F4/24", 24},
	{"C4/24~ C4/24 D4/24", "E4/36~ E4/36", 48},
	{"C4/24~ C4/24", "D4/24~ D4/24", 0},
	{"C#4/24", "Db4/24", -1}, // sound alike
	{"B3/24", "Cb4/24", -1},
	{"E#4/24", "Fb4/24", 0}, // a step up, and a half tone down
	{"C4/24", "G4/24", -1},
	{"G4/24", "C5/24", 0}, // the same tones, a fourth apart
	{"C4/12 D4/12 E4/12", "C5/12 D5/12 F5/12", 24},
	{"C4/12 D4/12 E4/12", "F4/12 D5/12 F5/12", 0}, // the first of two
	{"C4/768 C4/768", "C4/768 C4/767 B3/1", 1535},
	{"C4/768 C4/768", "C4/768 C4/768 B3/1", -1},
}

func TestP74FaultsByText(t *testing.T) {
	for _, c := range meetFaultsByText {
		checkMeetFault(t, duetOf(t, c.first, c.second), c.tick)
	}
	checkMeetFault(t, duet{[]impl.Note{}, nil}, -1)
}

func TestP74FullVoicesHaveFaults(t *testing.T) {
	full := slices.Repeat(tiedRun(1, 768), 60)
	for at := range full {
		other := slices.Clone(full)
		other[at].Tone = impl.Pitch{Step: 1, Octave: 4}
		checkMeetFault(t, duet{full, other}, 768*at)
		other[at] = impl.Note{Rest: true, Ticks: 768}
		checkMeetFault(t, duet{full, other}, -1)
	}
}

func TestP74AVoiceAndItsOctavesHaveNone(t *testing.T) {
	moved := 0
	for _, v := range append(goodVoices(t), sungVoices(t, 274, 100)...) {
		checkMeetFault(t, duet{v, v}, -1)
		checkMeetFault(t, duet{v, slices.Clone(v)}, -1)
		for _, by := range []impl.Interval{octave, {Steps: 14, Halves: 24}, {Steps: 21, Halves: 36}} {
			for _, way := range []impl.Interval{by, negative(by)} {
				if other, ok := impl.ShiftVoice(v, way); ok {
					checkMeetFault(t, duet{v, other}, -1)
					moved++
				}
			}
		}
	}
	if moved < 1000 {
		t.Fatal(moved)
	}
}

func TestP74OtherVoicesHaveNone(t *testing.T) {
	for _, bad := range badVoices(t) {
		for _, v := range beside(t) {
			checkMeetFault(t, duet{bad, v}, -1)
		}
		checkMeetFault(t, duet{bad, bad}, -1)
	}
	clear, bad := notesOf(t, "C4/24"), notesOf(t, "Db4/24 D4/24~")
	checkMeetFault(t, duet{clear, bad}, -1) // although the first notes clash
}

func TestP75CanonsFollow(t *testing.T) {
	var possible tally
	voices := append(randomVoices()[:40], notesOf(t, "C4/48~ C4/48 r/24 Bb4/24~ Bb4/1 r/1 F#3/768"), notesOf(t, "C0/1 r/1"), notesOf(t, "B8/1"), notesOf(t, "r/1 r/2"), nil)
	for at, v := range append(voices, sungVoices(t, 75, 40)...) {
		for by := range knownIntervals {
			possible.add(checkCanon(t, follower{v, 1 + 37*at%768, by}))
		}
	}
	possible.check(t, 1000)
}

func TestP75AllVoicesAreFollowed(t *testing.T) {
	for _, v := range goodVoices(t) {
		for _, by := range fewIntervals() {
			f := follower{v, 24, by}
			ok := checkCanon(t, f)
			moved, possible := impl.ShiftVoice(v, by)
			if ok != (possible && len(v) < 60) {
				t.Fatal(f, ok)
			}
			if canon, ok := f.canon(); ok && (!impl.VoiceValid(canon) || !slices.Equal(canon[1:], moved)) {
				t.Fatal(f, canon)
			}
		}
	}
}

func TestP75AllDelays(t *testing.T) {
	fifth := impl.Interval{Steps: 4, Halves: 7}
	for delay := -10; delay <= 1000; delay++ {
		for _, v := range [][]impl.Note{nil, notesOf(t, "r/24"), notesOf(t, "C4/48~ C4/48"), tiedRun(59, 12)} {
			if checkCanon(t, follower{v, delay, fifth}) != (delay >= 1 && delay <= 768) {
				t.Fatal(v, delay)
			}
		}
	}
}

// canonsByText are voices and the canons that follow them; "none" where there is none.
var canonsByText = []struct {
	voice         string
	delay         int
	steps, halves int
	canon         string
}{
	{"", 24, 0, 0, "r/24"},
	{"", 768, 21, 39, "r/768"},
	{"", 1, -21, -39, "r/1"},
	{"", 0, 0, 0, "none"},
	{"", 769, 0, 0, "none"},
	{"", 24, 22, 38, "none"},
	{"C4/48 D4/48", 24, 4, 7, "r/24 G4/48 A4/48"},
	{"C4/48 D4/48", 24, -4, -7, "r/24 F3/48 G3/48"},
	{"C4/48 D4/48", 24, 0, 0, "r/24 C4/48 D4/48"},
	{"C4/48 D4/48", 24, 0, 1, "r/24 C#4/48 D#4/48"},
	{"C4/48 D4/48", 24, 0, -1, "r/24 Cb4/48 Db4/48"},
	{"C4/48 D4/48", 0, 0, 0, "none"},
	{"C4/48 D4/48", 1, 0, 0, "r/1 C4/48 D4/48"},
	{"C4/48 D4/48", 768, 0, 0, "r/768 C4/48 D4/48"},
	{"C4/48 D4/48", 769, 0, 0, "none"},
	{"C4/48 D4/48", -1, 0, 0, "none"},
	{"C4/48 D4/48", -24, 0, 0, "none"},
	{"r/48", 24, 21, 36, "r/24 r/48"}, // rests stay, however far
	{"r/48 C4/48 r/1", 24, 1, 2, "r/24 r/48 D4/48 r/1"},
	{"r/48", 24, 1, -2, "none"}, // an invalid interval
	{"C4/24~ C4/768~ C4/24 r/1", 5, 2, 3, "r/5 Eb4/24~ Eb4/768~ Eb4/24 r/1"},
	{"B8/1", 1, 1, 1, "none"}, // out of the octaves
	{"C4/1 B8/1", 1, 1, 1, "none"},
	{"C0/1 C4/1", 1, -1, -1, "none"},
	{"C0/1 C4/1", 1, 1, 2, "r/1 D0/1 D4/1"},
	{"C##4/1", 1, 0, 1, "none"}, // too many alterations
	{"C4/1 Dbb4/1", 1, 0, -1, "none"},
	{"C#4/1", 1, 0, 1, "r/1 C##4/1"},
	{"E#4/24 Fb4/24", 24, 1, 1, "r/24 F#4/24 Gbb4/24"},
	{"E4/24", 24, 1, -1, "r/24 Fbb4/24"},
	{"C4/24", 24, 0, 4, "none"},
}

func TestP75CanonsByText(t *testing.T) {
	for _, c := range canonsByText {
		f := followerOf(t, c.voice, c.delay, c.steps, c.halves)
		if c.canon == "none" {
			checkNoCanon(t, f)
			continue
		}
		want := notesOf(t, c.canon)
		if canon, ok := f.canon(); !ok || !slices.Equal(canon, want) {
			t.Fatal(c, canon, ok)
		}
		checkIsCanon(t, duet{f.voice, want}, true)
	}
}

func TestP75CanonsHaveALimit(t *testing.T) {
	for count := 1; count <= 130; count++ {
		for _, v := range [][]impl.Note{tiedRun(count, 12), slices.Repeat(tiedRun(1, 768), count), slices.Repeat([]impl.Note{{Rest: true, Ticks: 1}}, count)} {
			for _, by := range []impl.Interval{{}, octave, negative(octave)} {
				if checkCanon(t, follower{v, 24, by}) != (count <= 59) {
					t.Fatal(count, v, by)
				}
			}
		}
	}
}

func TestP75OtherArgumentsAreNotFollowed(t *testing.T) {
	for _, by := range badIntervals() {
		for _, v := range [][]impl.Note{nil, {{Rest: true, Ticks: 24}}, {{Tone: impl.Pitch{Octave: 4}, Ticks: 24}}} {
			checkNoCanon(t, follower{v, 24, by})
		}
	}
	for _, bad := range badVoices(t) {
		for _, by := range fewIntervals() {
			checkNoCanon(t, follower{bad, 24, by})
		}
		checkNoCanon(t, follower{bad, 0, impl.Interval{}})
	}
	for _, delay := range badTicks() {
		for _, v := range beside(t) {
			checkNoCanon(t, follower{v, delay, impl.Interval{}})
			checkNoCanon(t, follower{v, delay, octave})
		}
	}
}

func TestP76ACanonHasARestMore(t *testing.T) {
	found := 0
	for at, v := range append(goodVoices(t), sungVoices(t, 76, 200)...) {
		delay := 1 + 53*at%768
		for _, by := range fewIntervals() {
			canon, ok := impl.CanonOf(v, delay, by)
			if !ok {
				continue
			}
			found++
			if len(canon) != len(v)+1 || canon[0] != (impl.Note{Rest: true, Ticks: delay}) || impl.VoiceTicks(canon) != impl.VoiceTicks(v)+delay {
				t.Fatal(v, delay, by, canon)
			}
			checkIsCanon(t, duet{v, canon}, true)
			checkIsCanon(t, duet{canon, v}, false)
		}
	}
	if found < 10000 {
		t.Fatal(found)
	}
}

func TestP76AVoiceIsNoCanonOfItself(t *testing.T) {
	checkIsCanon(t, duet{nil, nil}, false)
	checkIsCanon(t, duet{[]impl.Note{}, nil}, false)
	for _, v := range append(goodVoices(t), sungVoices(t, 176, 200)...) {
		checkIsCanon(t, duet{v, v}, false)
		checkIsCanon(t, duet{v, slices.Clone(v)}, false)
		checkIsCanon(t, duet{v, nil}, false)
		if moved, ok := impl.ShiftVoice(v, octave); ok {
			checkIsCanon(t, duet{v, moved}, false)
		}
	}
}

func TestP76ShortVoices(t *testing.T) {
	notes := notesOf(t, "C0/1 C0/1~ C#0/1 E0/1 r/1 C4/1 C7/1 r/2")
	notes = append(notes, wrongNotes()[:4]...)
	var canons tally
	seconds := listsOf(notes, 3)
	for _, v := range listsOf(notes, 2) {
		for _, second := range seconds {
			want := isSomeCanon(v, second)
			checkIsCanon(t, duet{v, second}, want)
			canons.add(want)
		}
	}
	canons.check(t, 100)
}

func TestP76AllPairsOfPitches(t *testing.T) {
	pitches := allPitches()
	for _, p := range pitches {
		for _, q := range pitches {
			_, want := knownIntervals[wayBetween(p, q)]
			checkIsCanon(t, duet{[]impl.Note{{Tone: p, Ticks: 5}}, []impl.Note{{Rest: true, Ticks: 3}, {Tone: q, Ticks: 5}}}, want)
		}
	}
}

// changedNotes are a note with one of its parts changed, or more; some are invalid.
func changedNotes(n impl.Note) []impl.Note {
	list := []impl.Note{{Rest: true, Ticks: n.Ticks}, {Tone: n.Tone, Ticks: n.Ticks, Tied: n.Tied}}
	for _, ticks := range []int{-1, 1, 768 - n.Ticks, 769 - n.Ticks, -n.Ticks} {
		changed := n
		changed.Ticks += ticks
		list = append(list, changed)
	}
	for _, by := range []impl.Pitch{{Step: 1}, {Step: -1}, {Alter: 1}, {Alter: -1}, {Octave: 1}, {Octave: -1}, {Step: 1, Alter: -2}} {
		changed := n
		changed.Tone = impl.Pitch{Step: n.Tone.Step + by.Step, Alter: n.Tone.Alter + by.Alter, Octave: n.Tone.Octave + by.Octave}
		list = append(list, changed)
	}
	changed := n
	changed.Tied = !n.Tied
	return append(list, changed)
}

// changedVoices are a voice with one note changed, without one, or with one more; some are invalid.
func changedVoices(v []impl.Note) [][]impl.Note {
	var list [][]impl.Note
	for at, n := range v {
		for _, changed := range changedNotes(n) {
			other := slices.Clone(v)
			other[at] = changed
			list = append(list, other)
		}
		list = append(list, slices.Delete(slices.Clone(v), at, at+1), slices.Insert(slices.Clone(v), at, n))
	}
	return append(list, append(slices.Clone(v), impl.Note{Rest: true, Ticks: 1}), append(slices.Clone(v), tiedRun(1, 24)...))
}

func TestP76ChangedCanons(t *testing.T) {
	var canons tally
	voices := append(sungVoices(t, 276, 60), nil, notesOf(t, "r/24"), notesOf(t, "r/24 C4/24~ C4/24"), notesOf(t, "r/1 r/2"), notesOf(t, "G4/24 r/24"), notesOf(t, "C0/24"))
	for _, v := range voices {
		for _, by := range []impl.Interval{{}, {Steps: 2, Halves: 3}, {Steps: -1, Halves: 1}, negative(octave)} {
			canon, ok := follower{v, 24, by}.wanted()
			if !ok {
				continue
			}
			for _, second := range changedVoices(canon) {
				want := isSomeCanon(v, second)
				checkIsCanon(t, duet{v, second}, want)
				canons.add(want)
			}
		}
	}
	canons.check(t, 1000)
}

// isCanonByText are two voices, and whether the second one is a canon of the first one.
var isCanonByText = []struct {
	voice, second string
	want          bool
}{
	{"", "", false},
	{"", "r/24", true},
	{"", "r/768", true},
	{"", "r/769", false}, // too long
	{"", "C4/24", false},
	{"", "r/24 r/24", false},
	{"r/24", "r/24", false},
	{"r/24", "r/1 r/24", true},
	{"r/24", "r/24 r/24", true},
	{"r/24", "r/24 r/25", false},
	{"r/24", "C4/24 r/24", false},
	{"r/24", "r/24 C4/24", false},
	{"r/24", "r/24 C0/24", false},
	{"C0/24", "r/24 r/24", false}, // a rest is not C0
	{"C0/24", "r/24 C0/24", true},
	{"E0/24", "r/24 r/24", false},
	{"C4/24", "", false},
	{"C4/24", "r/24", false},
	{"C4/24", "C4/24", false},
	{"C4/24", "r/24 G5/24", true},
	{"C4/24", "r/24 C4/24", true},
	{"C4/24", "r/24 C7/24", true},
	{"C4/24", "r/24 C#7/24", true},
	{"C4/24", "r/24 D7/24", false}, // 22 steps
	{"C4/24", "r/24 Db7/24", false},
	{"C4/24", "r/24 D#5/24", true},
	{"C4/24", "r/24 E##5/24", true},
	{"Cb4/24", "r/24 E##5/24", true}, // three half tones more than without alterations
	{"Cbb4/24", "r/24 E##5/24", false},
	{"C4/24", "r/769 C4/24", false},
	{"C4/24", "r/0 C4/24", false},
	{"C4/24", "C4/24 C4/24", false},
	{"C4/24", "r/24~ C4/24", false},
	{"C4/24", "r/24 C4/23", false},
	{"C4/24", "r/24 C4/24~", false},
	{"C4/24", "r/24 C4/24 r/24", false},
	{"C4/24", "r/24 r/24 C4/24", false},
	{"C4/48 D4/48", "r/24 G4/48 A4/48", true},
	{"C4/48 D4/48", "r/24 G4/48 B4/48", false},
	{"C4/48 D4/48", "r/24 G4/48 Bbb4/48", false}, // sounds the same, and is spelled otherwise
	{"C4/48 D4/48", "r/24 F##4/48 A4/48", false},
	{"C4/48 D4/48", "r/24 F##4/48 G##4/48", true},
	{"C4/48 D4/48", "r/24 A4/48 G4/48", false},
	{"C4/48 D4/48", "r/24 G4/48", false},
	{"C4/48 D4/48", "r/24 G4/48 A4/48 B4/48", false},
	{"C4/48 D4/48", "G4/24 G4/48 A4/48", false},
	{"C4/48 D4/48", "r/24 G4/48 r/48", false},
	{"C4/48 r/48", "r/24 G4/48 r/48", true},
	{"C4/48 r/48", "r/24 G4/48 G4/48", false},
	{"r/24 C4/48", "r/24 r/24 E4/48", true},
	{"r/24 C4/48", "r/12 r/24 E4/48", true},
	{"r/24 C4/48", "r/24 E4/48", false},
	{"r/24 C4/48", "r/48 E4/48", false},
	{"r/24 C4/48", "r/24 E4/48 r/24", false},
	{"r/24 C4/48", "r/24 C4/24 E4/48", false},
	{"r/24 C4/48 D4/48", "r/24 r/24 Bb3/48 C4/48", true},
	{"r/24 C4/48 D4/48", "r/24 r/24 Bb3/48 Db4/48", false},
	{"C4/24~ C4/24", "r/24 E4/24~ E4/24", true},
	{"C4/24~ C4/24", "r/24 E4/24 E4/24", false},
	{"C4/24 C4/24", "r/24 E4/24~ E4/24", false},
	{"C4/24~ C4/24", "r/24 E4/48", false},
	{"C4/48", "r/24 E4/24~ E4/24", false},
	{"C4/24~ C4/24", "r/24 E4/24~ F4/24", false},
	{"C4/24~", "r/24 C4/24~", false}, // both invalid
	{"C4/24~", "r/24 C4/24", false},
	{"C4/0", "r/24 C4/0", false},
	{"C4/769", "r/24 C4/769", false},
}

func TestP76CanonsByText(t *testing.T) {
	for _, c := range isCanonByText {
		d := duetOf(t, c.voice, c.second)
		checkIsCanon(t, d, c.want)
		if isSomeCanon(d.first, d.second) != c.want {
			t.Fatal(c)
		}
	}
}

func TestP76FullVoices(t *testing.T) {
	for _, v := range [][]impl.Note{tiedRun(59, 12), slices.Repeat(tiedRun(1, 768), 59), slices.Repeat(notesOf(t, "r/24"), 59)} {
		canon := slices.Concat(notesOf(t, "r/24"), v)
		checkIsCanon(t, duet{v, canon}, true)
		checkIsCanon(t, duet{canon, slices.Concat(notesOf(t, "r/24"), canon)}, false) // MaxNotes notes, and more
	}
}

func TestP76OtherVoicesAreNoCanons(t *testing.T) {
	for _, bad := range badVoices(t) {
		for _, v := range beside(t) {
			checkIsCanon(t, duet{bad, v}, false)
			checkIsCanon(t, duet{v, bad}, false)
		}
		later := slices.Concat(notesOf(t, "r/24"), bad)
		checkIsCanon(t, duet{bad, later}, false)
		checkIsCanon(t, duet{bad, bad}, false)
		for at, n := range bad {
			// One of both alone is put right, where that is possible.
			right := slices.Clone(bad)
			right[at] = impl.Note{Tone: impl.Pitch{Octave: 4}, Ticks: 24}
			if n != right[at] {
				checkIsCanon(t, duet{right, later}, false)
				checkIsCanon(t, duet{bad, slices.Concat(notesOf(t, "r/24"), right)}, false)
			}
		}
	}
	for _, delay := range badTicks() {
		checkIsCanon(t, duet{nil, []impl.Note{{Rest: true, Ticks: delay}}}, false)
		checkIsCanon(t, duet{tiedRun(1, 24), []impl.Note{{Rest: true, Ticks: delay}, {Tone: impl.Pitch{Octave: 4}, Ticks: 24}}}, false)
	}
}

func TestP77GoodDelaysAreFound(t *testing.T) {
	found, missed := 0, 0
	intervals := fewIntervals()
	for at, v := range sungVoices(t, 77, 400) {
		for way := range 6 {
			by, grid := intervals[(at+5*way)%len(intervals)], []int{1, 2, 5, 6, 12, 24}[(at+way)%6]
			want := wantedDelays(v, grid, by)
			checkDelays(t, v, grid, by, want)
			found += len(want)
			missed += max(0, ticksOf(v)-1)/grid - len(want)
		}
	}
	if found < 1000 || missed < 1000 {
		t.Fatal(found, missed)
	}
}

func TestP77LongVoices(t *testing.T) {
	voices := append(longVoices(t), randomVoices()[:8]...)
	for _, v := range voices {
		for _, by := range []impl.Interval{{}, octave} {
			checkDelays(t, v, 7, by, wantedDelays(v, 7, by))
			checkDelays(t, v, 96, by, wantedDelays(v, 96, by))
		}
	}
}

func TestP77CanonsHaveNoFault(t *testing.T) {
	found := 0
	for _, v := range sungVoices(t, 177, 200) {
		for _, by := range fewIntervals() {
			for _, grid := range []int{1, 6, 7} {
				delays := impl.CanonDelays(v, grid, by)
				if !slices.IsSorted(delays) || len(slices.Compact(slices.Clone(delays))) != len(delays) {
					t.Fatal(v, grid, by, delays)
				}
				for _, delay := range delays {
					canon, ok := impl.CanonOf(v, delay, by)
					if !ok || delay%grid != 0 || delay < 1 || delay >= impl.VoiceTicks(v) || impl.MeetFault(v, canon) != -1 || !impl.IsCanon(v, canon) {
						t.Fatal(v, grid, by, delay, canon)
					}
					found++
				}
			}
		}
	}
	if found < 5000 {
		t.Fatal(found)
	}
}

func TestP77AllGrids(t *testing.T) {
	voices := append(sungVoices(t, 277, 15), notesOf(t, "C4/768 E4/768"), notesOf(t, "C4/24 r/12 E4/768 C5/200"), notesOf(t, "C4/767"), notesOf(t, "C4/768"), notesOf(t, "C4/768 C4/1"), notesOf(t, "r/768 C0/2"))
	for _, v := range voices {
		for _, by := range []impl.Interval{{}, {Steps: 2, Halves: 4}} {
			all := wantedDelays(v, 1, by)
			for grid := 1; grid <= 768; grid++ {
				others := func(delay int) bool { return delay%grid != 0 }
				checkDelays(t, v, grid, by, slices.DeleteFunc(slices.Clone(all), others))
			}
		}
	}
}

// delaysByText are voices, grids and intervals, and the good delays.
var delaysByText = []struct {
	voice         string
	grid          int
	steps, halves int
	delays        string
}{
	{"", 1, 0, 0, ""},
	{"C4/48 E4/48", 48, 0, 0, "48"},
	{"C4/48 E4/48", 24, 0, 0, "24 48 72"},
	{"C4/48 E4/48", 95, 0, 0, "95"},
	{"C4/48 E4/48", 96, 0, 0, ""}, // as long as the voice
	{"C4/48 E4/48", 97, 0, 0, ""},
	{"C4/48 E4/48", 768, 0, 0, ""},
	{"C4/48 E4/48", 769, 0, 0, ""},
	{"C4/48 E4/48", 0, 0, 0, ""},
	{"C4/48 E4/48", -1, 0, 0, ""},
	{"C4/48 E4/48", -48, 0, 0, ""},
	{"C4/48 D4/48", 48, 0, 0, ""},
	{"C4/48 D4/48", 1, 0, 0, ""},
	{"C4/48 D4/48", 24, 3, 5, "48 72"},      // C clashes with the F above, and D does not
	{"C4/48 D4/48", 24, -4, -7, "24 48 72"}, // both are above F and G now
	{"C4/48 D4/48", 24, 4, 7, ""},
	{"C4/24 r/24", 12, 1, 1, "24 36"}, // behind the note, where the voice only rests
	{"C4/24 r/24", 24, 1, 1, "24"},
	{"C4/24 r/24 C4/24", 24, 1, 1, "24"},
	{"C4/24 r/24 C4/24", 12, 1, 1, "24"},
	{"r/24", 1, 1, 1, "1 2 3 4 5 6 7 8 9 10 11 12 13 14 15 16 17 18 19 20 21 22 23"},
	{"r/24", 8, 21, 36, "8 16"},
	{"r/24", 8, 22, 38, ""}, // an invalid interval
	{"r/24", 8, 0, 4, ""},
	{"r/1", 1, 0, 0, ""},
	{"r/2", 1, 0, 0, "1"},
	{"C4/1", 1, 0, 0, ""},
	{"C4/2", 1, 0, 0, "1"},
	{"C4/24~ C4/24", 16, 2, 4, "16 32"},
	{"C4/24~ C4/24", 16, 1, 2, ""},
	{"B8/24 r/24", 24, 1, 1, ""}, // not possible
	{"C0/24 r/24", 24, -1, -1, ""},
	{"C##4/24 r/24", 24, 0, 1, ""},
	{"C#4/24 r/24", 24, 0, 1, "24"},
	{"C4/768", 384, 0, 0, "384"},
	{"C4/768", 767, 0, 0, "767"},
	{"C4/768", 768, 0, 0, ""},
	{"C4/768 C4/1", 768, 0, 0, "768"},
	{"C4/768 C4/1", 384, 7, 12, "384 768"},
	{"C4/768 C4/768", 384, 7, 12, "384 768"}, // at most MaxTicks
	{"C4/768 C4/768", 300, 0, 0, "300 600"},
	{"C4/768 C4/768", 768, 1, 1, ""},
	{"C4/768 r/768", 768, 1, 1, "768"},
	{"C4/24~ r/24", 24, 0, 0, ""}, // an invalid voice
	{"C4/24 C4/24~", 24, 0, 0, ""},
}

func TestP77DelaysByText(t *testing.T) {
	for _, c := range delaysByText {
		f := followerOf(t, c.voice, 0, c.steps, c.halves)
		checkDelays(t, f.voice, c.grid, f.by, ticksIn(t, c.delays))
	}
}

func TestP77FullVoices(t *testing.T) {
	for _, v := range [][]impl.Note{tiedRun(59, 1), slices.Repeat(tiedRun(1, 1), 59), slices.Repeat(notesOf(t, "r/1"), 59)} {
		var all []int
		for delay := 1; delay <= 58; delay++ {
			all = append(all, delay)
		}
		checkDelays(t, v, 1, octave, all)
	}
	for _, v := range [][]impl.Note{tiedRun(60, 1), slices.Repeat(tiedRun(1, 768), 60), slices.Repeat(notesOf(t, "r/1"), 60)} {
		checkDelays(t, v, 1, octave, nil)
		checkDelays(t, v, 1, impl.Interval{}, nil)
	}
}

func TestP77OtherArgumentsHaveNoDelays(t *testing.T) {
	for _, bad := range badVoices(t) {
		for _, grid := range []int{1, 12, 768} {
			checkDelays(t, bad, grid, impl.Interval{}, nil)
			checkDelays(t, bad, grid, octave, nil)
		}
	}
	for _, by := range badIntervals() {
		checkDelays(t, notesOf(t, "r/24"), 8, by, nil)
		checkDelays(t, notesOf(t, "C4/24"), 8, by, nil)
	}
	for _, grid := range append(badTicks(), -1, -8, math.MinInt) {
		for _, v := range beside(t) {
			checkDelays(t, v, grid, impl.Interval{}, nil)
		}
	}
}

func TestP129CanonsMeetBehindTheRest(t *testing.T) {
	var possible tally
	for _, v := range append(goodVoices(t), sungVoices(t, 129, 300)...) {
		ticks := impl.VoiceTicks(v)
		for _, by := range fewIntervals() {
			canon, ok := impl.CanonOf(v, ticks, by)
			if _, moves := movedOf(v, by); ok != (moves && ticks >= 1 && ticks <= 768 && len(v) < 60) {
				t.Fatal(v, ticks, by, canon, ok)
			}
			possible.add(ok)
			if ok {
				checkMeetFault(t, duet{v, canon}, -1)
				checkMeets(t, duet{v, canon}, (duet{v, canon}).wantedMeets())
			}
		}
	}
	possible.check(t, 5000)
}

func TestP129CanonsByText(t *testing.T) {
	minor := impl.Interval{Steps: 1, Halves: 1}
	cases := []struct {
		voice  string
		before int // the fault of the canon that comes a tick earlier
	}{
		{"C4/48", 47},
		{"C4/48 C4/48", 95},
		{"C4/24~ C4/24", 47},
		{"r/24 C4/48", -1}, // the first rest is moved along
		{"C4/48 r/1", -1},
		{"C4/767 C4/1", 767},
		{"C4/768", 767},
		{"r/768", -1},
		{"C4/12 G4/12 C4/12", 35},
	}
	for _, c := range cases {
		v := notesOf(t, c.voice)
		for _, earlier := range []int{0, 1} {
			canon, ok := impl.CanonOf(v, ticksOf(v)-earlier, minor)
			if !ok {
				t.Fatal(c)
			}
			checkMeetFault(t, duet{v, canon}, []int{-1, c.before}[earlier])
		}
	}
	checkNoCanon(t, follower{nil, 0, minor})
	checkNoCanon(t, follower{notesOf(t, "C4/768 C4/1"), 769, minor})
}

// checkNewTicks fails if a call returns memory that another call returns, too.
func checkNewTicks(t *testing.T, call func() []int) {
	t.Helper()
	first, second := call(), call()
	want := slices.Clone(second)
	all := first[:cap(first)]
	for at := range all {
		all[at] = -7
	}
	if third := call(); !slices.Equal(second, want) || !slices.Equal(third, want) {
		t.Fatal(second, third, want)
	}
}

func TestP73ToP77VoicesAreOnlyRead(t *testing.T) {
	voices := append(lentVoices(t), sungVoices(t, 73, 50)...)
	for at, v := range voices {
		a, b := lend(v), lend(voices[(at+1)%len(voices)])
		checkNewTicks(t, func() []int { return impl.MeetTicks(a.voice, b.voice) })
		impl.MeetFault(a.voice, b.voice)
		impl.IsCanon(a.voice, b.voice)
		canon, _ := impl.CanonOf(a.voice, 24, octave)
		c := lend(canon)
		if impl.IsCanon(a.voice, c.voice) != (len(canon) > 0) {
			t.Fatal(v, canon)
		}
		checkNewTicks(t, func() []int { return impl.CanonDelays(a.voice, 48, octave) })
		a.check(t)
		b.check(t)
		c.check(t)
	}
}

func TestP75CanonsAreNewMemory(t *testing.T) {
	for _, v := range lentVoices(t) {
		for _, f := range []follower{{v, 24, impl.Interval{}}, {v, 1, octave}, {v, 0, octave}, {v, 768, impl.Interval{Steps: 22, Halves: 38}}} {
			checkNew(t, v, func(v []impl.Note) []impl.Note {
				canon, _ := impl.CanonOf(v, f.delay, f.by)
				return canon
			})
		}
	}
}
