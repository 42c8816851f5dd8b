package tests

import (
	"math"
	"math/rand/v2"
	"slices"
	"strconv"
	"strings"
	"testing"

	"loop.example/musicengine/impl"
)

// notesOf reads notes as chapter 8 writes them, valid or not, without the program's own reader.
func notesOf(t *testing.T, text string) []impl.Note {
	t.Helper()
	var notes []impl.Note
	for _, word := range strings.Fields(text) {
		name, length, _ := strings.Cut(word, "/")
		ticks, err := strconv.Atoi(strings.TrimSuffix(length, "~"))
		if err != nil {
			t.Fatal(text, err)
		}
		n := impl.Note{Rest: name == "r", Ticks: ticks, Tied: strings.HasSuffix(length, "~")}
		if !n.Rest {
			n.Tone = readPitch(t, name)
		}
		notes = append(notes, n)
	}
	return notes
}

// tiedRun is so many notes with the pitch C4, all of them tied to the next one but the last one.
func tiedRun(count int, ticks int) []impl.Note {
	run := slices.Repeat([]impl.Note{{Tone: impl.Pitch{Octave: 4}, Ticks: ticks, Tied: true}}, count)
	run[count-1].Tied = false
	return run
}

func pitchIsValid(p impl.Pitch) bool {
	return p.Step >= 0 && p.Step <= 6 && p.Alter >= -2 && p.Alter <= 2 && p.Octave >= 0 && p.Octave <= 8
}

// noteIsValid and voiceIsValid tell what is valid as chapter 5 says it, counted without the program.
func noteIsValid(n impl.Note) bool {
	if n.Rest {
		n.Rest = false
		return n == impl.Note{Ticks: n.Ticks} && n.Ticks >= 1 && n.Ticks <= 768
	}
	return pitchIsValid(n.Tone) && n.Ticks >= 1 && n.Ticks <= 768
}

func voiceIsValid(v []impl.Note) bool {
	open := false
	var tone impl.Pitch
	for _, n := range v {
		if !noteIsValid(n) || open && (n.Rest || n.Tone != tone) {
			return false
		}
		open, tone = n.Tied, n.Tone
	}
	return !open && len(v) <= 60
}

// listsOf returns all lists of at most so many of the notes.
func listsOf(notes []impl.Note, most int) [][]impl.Note {
	lists := [][]impl.Note{{}}
	from := 0
	for range most {
		end := len(lists)
		for ; from < end; from++ {
			for _, n := range notes {
				lists = append(lists, append(slices.Clone(lists[from]), n))
			}
		}
	}
	return lists
}

// smallNotes are valid notes of which short voices are made: C0 has the pitch that a rest has, Db4 and C#4 have the same key, and C#5 has the same step.
func smallNotes(t *testing.T) []impl.Note {
	return notesOf(t, "C0/1 C0/2~ r/3 C#4/384~ C#4/384 C#4/385~ C#4/768 Db4/5 C#5/6")
}

// wrongNotes are invalid notes, one for each way to be so, and some for the ends of what an int holds.
func wrongNotes() []impl.Note {
	c4, odd := impl.Pitch{Octave: 4}, impl.Pitch{Step: 7, Octave: 4}
	list := []impl.Note{
		{}, {Rest: true}, {Tone: c4},
		{Rest: true, Ticks: 24, Tied: true},
		{Rest: true, Tone: c4, Ticks: 24},
		{Rest: true, Tone: c4, Ticks: 24, Tied: true},
		{Rest: true, Tone: odd, Ticks: 24},
		{Tone: odd, Ticks: 24},
		{Tone: impl.Pitch{Alter: 3}, Ticks: 24},
		{Tone: impl.Pitch{Octave: 9}, Ticks: 24},
		{Tone: impl.Pitch{Octave: -1}, Ticks: 24},
	}
	for _, ticks := range append([]int{-1, -24, 769, 1536}, farNumbers...) {
		list = append(list, impl.Note{Tone: c4, Ticks: ticks}, impl.Note{Rest: true, Ticks: ticks}, impl.Note{Tone: c4, Ticks: ticks, Tied: true})
	}
	return list
}

// randomVoices are voices of up to 60 notes, always the same ones, with long and short groups of tied notes, rests, and neighbours with the same pitch that are not tied.
func randomVoices() [][]impl.Note {
	source := rand.New(rand.NewPCG(5, 32))
	pitches := allPitches()
	var list [][]impl.Note
	for round := range 400 {
		longest := []int{768, 300, 60, 12}[round%4]
		tie := source.Float64()
		v := make([]impl.Note, 0, 60)
		for count := source.IntN(61); len(v) < count; {
			n := impl.Note{Tone: pitches[source.IntN(len(pitches))], Ticks: 1 + source.IntN(longest)}
			if last := len(v) - 1; last >= 0 && (v[last].Tied || !v[last].Rest && source.IntN(4) == 0) {
				n.Tone = v[last].Tone
			} else if source.IntN(5) == 0 {
				n = impl.Note{Rest: true, Ticks: n.Ticks}
			}
			n.Tied = !n.Rest && len(v)+1 < count && source.Float64() < tie
			v = append(v, n)
		}
		list = append(list, v)
	}
	return list
}

// goodVoices are valid voices: all short ones of a few notes, long ones, and those at the limits.
func goodVoices(t *testing.T) [][]impl.Note {
	var list [][]impl.Note
	for _, v := range listsOf(smallNotes(t), 4) {
		if voiceIsValid(v) {
			list = append(list, v)
		}
	}
	list = append(list, nil,
		notesOf(t, "C4/48~ C4/48~ C4/48 r/24 G4/48"),
		notesOf(t, "Bb3/768~ Bb3/768~ Bb3/768 Bb3/768 r/768 r/768"),
		tiedRun(60, 1), tiedRun(60, 12), tiedRun(60, 13), tiedRun(60, 384), tiedRun(60, 385), tiedRun(60, 767), tiedRun(60, 768),
		slices.Repeat(tiedRun(2, 384), 30), slices.Repeat(tiedRun(3, 256), 20), slices.Repeat(tiedRun(1, 768), 60),
		slices.Repeat([]impl.Note{{Rest: true, Ticks: 768}}, 60))
	return append(list, randomVoices()...)
}

// badVoices are invalid voices.
func badVoices(t *testing.T) [][]impl.Note {
	list := [][]impl.Note{
		tiedRun(61, 1), slices.Repeat(tiedRun(1, 24), 61), slices.Repeat(tiedRun(1, 24), 500), slices.Repeat(notesOf(t, "r/1"), 61),
		slices.Repeat(tiedRun(2, 24), 31), append(tiedRun(60, 12), impl.Note{}),
		tiedRun(61, 12)[:60], // the last one is tied to one behind the voice
		tiedRun(3, 48)[:2], tiedRun(2, 48)[:1],
		slices.Repeat(notesOf(t, "C4/768~"), 60),
	}
	for _, text := range []string{
		"C4/24~", "C0/24~", "C4/24 C4/24~", "r/24 C4/24~", "C4/24~ C4/24~", // behind the last note
		"C4/24~ r/24", "C0/24~ r/24", "C0/24~ C0/24~ r/24 C0/24", "C4/24~ r/24 C4/24", // to a rest
		"C4/24~ D4/24", "C4/24~ C5/24", "C4/24~ C#4/24", "C#4/24~ Db4/24", "E4/24~ Fb4/24", "C4/24~ C4/24~ D4/24", "C4/24~ D4/24 C4/24",
		"B4/24~ Cb5/24", "C4/24 D4/24~ E4/24 F4/24",
		"r/24~", "r/24~ r/24", "r/24~ C4/24", "r/24~ C0/24",
		"C4/0", "r/0", "C4/-1", "C4/769", "r/769", "C4/24~ C4/0", "C4/0~ C4/24", "C4/768~ C4/769",
	} {
		list = append(list, notesOf(t, text))
	}
	for _, wrong := range wrongNotes() {
		for _, rest := range [][]impl.Note{nil, tiedRun(1, 24), tiedRun(4, 24), tiedRun(59, 12)} {
			for at := 0; at <= len(rest); at++ {
				list = append(list, slices.Insert(slices.Clone(rest), at, wrong))
			}
		}
		list = append(list, []impl.Note{wrong, wrong})
	}
	// The ticks of these wrap around to a small number.
	for _, pair := range [][2]int{{math.MinInt, math.MinInt}, {math.MaxInt, math.MinInt + 25}, {-24, 48}, {48, -24}, {math.MaxInt, 24}, {1 << 62, -1<<62 + 24}} {
		list = append(list, []impl.Note{{Ticks: pair[0]}, {Ticks: pair[1]}}, []impl.Note{{Ticks: pair[0], Tied: true}, {Ticks: pair[1]}})
	}
	for _, v := range list {
		if voiceIsValid(v) {
			t.Fatal(v)
		}
	}
	return list
}

// sound is what is heard at a tick, and whether it begins there.
type sound struct {
	rest   bool
	tone   impl.Pitch
	begins bool
}

// soundsOf returns what is heard of a valid voice, tick by tick.
func soundsOf(v []impl.Note) []sound {
	var list []sound
	held := false
	for _, n := range v {
		for tick := range n.Ticks {
			list = append(list, sound{n.Rest, n.Tone, tick == 0 && !held})
		}
		held = n.Tied
	}
	return list
}

func ticksOf(v []impl.Note) int {
	return len(soundsOf(v))
}

// joinedOf joins ties by adding each note to the one before it, if that is possible.
func joinedOf(v []impl.Note) []impl.Note {
	var joined []impl.Note
	for _, n := range v {
		last := len(joined) - 1
		if last < 0 || !joined[last].Tied || joined[last].Ticks > 768-n.Ticks {
			joined = append(joined, n)
			continue
		}
		joined[last].Ticks += n.Ticks
		joined[last].Tied = n.Tied
	}
	return joined
}

// groupsOf returns the ticks of all groups of tied notes, where one that is not tied is a group alone.
func groupsOf(v []impl.Note) []int {
	var groups []int
	held := false
	for _, n := range v {
		if !held {
			groups = append(groups, 0)
		}
		groups[len(groups)-1] += n.Ticks
		held = n.Tied
	}
	return groups
}

// movedPitch adds an interval to a pitch, counted without the program.
func movedPitch(p impl.Pitch, by impl.Interval) (impl.Pitch, bool) {
	place := 7*p.Octave + p.Step + by.Steps
	if place < 0 || place > 62 {
		return impl.Pitch{}, false
	}
	moved := impl.Pitch{Step: place % 7, Octave: place / 7}
	moved.Alter = 12*p.Octave + stepKeys[p.Step] + p.Alter + by.Halves - 12*moved.Octave - stepKeys[moved.Step]
	return moved, pitchIsValid(moved)
}

// movedOf moves a valid voice by a valid interval, counted without the program.
func movedOf(v []impl.Note, by impl.Interval) ([]impl.Note, bool) {
	moved := slices.Clone(v)
	for at := range moved {
		ok := true
		if !moved[at].Rest {
			moved[at].Tone, ok = movedPitch(moved[at].Tone, by)
		}
		if !ok {
			return nil, false
		}
	}
	return moved, true
}

func TestP32NotesHaveTicks(t *testing.T) {
	if impl.MaxNotes != 60 || impl.MaxTicks != 768 {
		t.Fatal(impl.MaxNotes, impl.MaxTicks)
	}
	for ticks := 1; ticks <= 768; ticks++ {
		for _, n := range []impl.Note{{Rest: true, Ticks: ticks}, {Ticks: ticks}, {Ticks: ticks, Tied: true}} {
			if !impl.NoteValid(n) {
				t.Fatal(n)
			}
		}
	}
	for _, p := range allPitches() {
		for _, ticks := range []int{1, 2, 24, 767, 768} {
			if !impl.NoteValid(impl.Note{Tone: p, Ticks: ticks}) || !impl.NoteValid(impl.Note{Tone: p, Ticks: ticks, Tied: true}) {
				t.Fatal(p, ticks)
			}
		}
	}
}

func TestP32NotesWithoutTicksAreInvalid(t *testing.T) {
	bad := append([]int{0, 769, 1 << 16, 1<<32 + 24, -1<<32 + 24, 1<<62 + 24}, farNumbers...)
	for distance := 1; distance <= 800; distance++ {
		bad = append(bad, -distance, 768+distance, math.MinInt+distance, math.MaxInt-distance)
	}
	for _, ticks := range bad {
		for _, n := range []impl.Note{{Rest: true}, {}, {Tied: true}, {Tone: impl.Pitch{Step: 5, Alter: 1, Octave: 4}}} {
			n.Ticks = ticks
			if impl.NoteValid(n) {
				t.Fatal(n)
			}
		}
	}
}

func TestP32RestsAreNotTiedAndHaveNoPitch(t *testing.T) {
	for ticks := 1; ticks <= 768; ticks++ {
		if n := (impl.Note{Rest: true, Ticks: ticks, Tied: true}); impl.NoteValid(n) {
			t.Fatal(n)
		}
	}
	for _, p := range append(allPitches(), badPitches()...) {
		for _, tied := range []bool{false, true} {
			n := impl.Note{Rest: true, Tone: p, Ticks: 24, Tied: tied}
			if impl.NoteValid(n) != (p == impl.Pitch{} && !tied) {
				t.Fatal(n)
			}
		}
	}
}

func TestP32OtherNotesAreInvalid(t *testing.T) {
	for _, n := range wrongNotes() {
		if impl.NoteValid(n) {
			t.Fatal(n)
		}
	}
	for _, p := range badPitches() {
		for _, tied := range []bool{false, true} {
			if n := (impl.Note{Tone: p, Ticks: 24, Tied: tied}); impl.NoteValid(n) {
				t.Fatal(n)
			}
		}
	}
}

func TestP33ShortVoices(t *testing.T) {
	notes := append(smallNotes(t), wrongNotes()[:6]...)
	for _, v := range listsOf(notes, 3) {
		if impl.VoiceValid(v) != voiceIsValid(v) {
			t.Fatal(v)
		}
	}
}

func TestP33GoodVoices(t *testing.T) {
	for _, v := range goodVoices(t) {
		if !impl.VoiceValid(v) {
			t.Fatal(v)
		}
	}
	if !impl.VoiceValid([]impl.Note{}) || !impl.VoiceValid(nil) {
		t.Fatal("no notes")
	}
}

func TestP33OtherVoicesAreInvalid(t *testing.T) {
	for _, v := range badVoices(t) {
		if impl.VoiceValid(v) {
			t.Fatal(v)
		}
	}
}

func TestP33TheLastNoteIsNotTied(t *testing.T) {
	for _, v := range goodVoices(t) {
		if len(v) == 0 {
			continue
		}
		last := len(v) - 1
		if v[last].Tied || impl.VoiceValid(v[:last]) != (last == 0 || !v[last-1].Tied) {
			t.Fatal(v)
		}
		open := slices.Clone(v)
		open[last].Tied = true
		if impl.VoiceValid(open) {
			t.Fatal(open)
		}
	}
}

func TestP33TiesLeadToTheSamePitch(t *testing.T) {
	for _, a := range allPitches() {
		for _, b := range allPitches() {
			for _, ticks := range []int{1, 768} {
				pair := []impl.Note{{Tone: a, Ticks: 24, Tied: true}, {Tone: b, Ticks: ticks}}
				if impl.VoiceValid(pair) != (a == b) {
					t.Fatal(pair)
				}
			}
		}
		if v := []impl.Note{{Tone: a, Ticks: 24, Tied: true}, {Rest: true, Ticks: 24}}; impl.VoiceValid(v) {
			t.Fatal(v)
		}
	}
}

func TestP33VoicesHaveALimit(t *testing.T) {
	for count := 1; count <= 130; count++ {
		for _, v := range [][]impl.Note{tiedRun(count, 12), slices.Repeat(tiedRun(1, 1), count), slices.Repeat([]impl.Note{{Rest: true, Ticks: 768}}, count)} {
			if impl.VoiceValid(v) != (count <= 60) {
				t.Fatal(count, v)
			}
		}
	}
}

func TestP34TicksAddUp(t *testing.T) {
	for _, v := range goodVoices(t) {
		whole := impl.VoiceTicks(v)
		if whole != ticksOf(v) {
			t.Fatal(v, whole)
		}
		for at := 0; at <= len(v); at++ {
			first, second := impl.VoiceTicks(v[:at]), impl.VoiceTicks(v[at:])
			if at > 0 && v[at-1].Tied {
				if first != -1 {
					t.Fatal(v, at, first)
				}
				continue
			}
			if first < 0 || second < 0 || first+second != whole {
				t.Fatal(v, at, first, second, whole)
			}
		}
	}
}

func TestP34TicksByNumber(t *testing.T) {
	cases := map[string]int{
		"":                               0,
		"C4/1":                           1,
		"r/768":                          768,
		"C4/768~ C4/768":                 1536,
		"C4/48~ C4/48~ C4/48 r/24 G4/48": 216,
		"r/1 r/2 r/3":                    6,
	}
	for text, want := range cases {
		if ticks := impl.VoiceTicks(notesOf(t, text)); ticks != want {
			t.Fatal(text, ticks, want)
		}
	}
	if ticks := impl.VoiceTicks(slices.Repeat(tiedRun(1, 768), 60)); ticks != 46080 {
		t.Fatal(ticks)
	}
	if impl.VoiceTicks(nil) != 0 || impl.VoiceTicks([]impl.Note{}) != 0 {
		t.Fatal("no notes")
	}
}

func TestP34OtherVoicesHaveNoTicks(t *testing.T) {
	for _, v := range badVoices(t) {
		if ticks := impl.VoiceTicks(v); ticks != -1 {
			t.Fatal(v, ticks)
		}
	}
}

func TestP35NotesAreAtTheirTicks(t *testing.T) {
	for _, v := range goodVoices(t) {
		begin := 0
		for at, n := range v {
			for _, tick := range []int{begin, begin + n.Ticks/2, begin + n.Ticks - 1} {
				if got := impl.NoteAt(v, tick); got != at {
					t.Fatal(v, tick, got, at)
				}
			}
			begin += n.Ticks
		}
		for _, tick := range []int{begin, begin + 1, begin + 768, -1, -2, -begin - 1} {
			if got := impl.NoteAt(v, tick); got != -1 {
				t.Fatal(v, tick, got)
			}
		}
	}
}

func TestP35EveryTickHasItsNote(t *testing.T) {
	v := notesOf(t, "C4/48~ C4/48~ C4/48 r/24 G4/1 G4/1 r/1 C0/768 r/768 B8/2~ B8/2")
	tick := 0
	for at, n := range v {
		for range n.Ticks {
			if got := impl.NoteAt(v, tick); got != at {
				t.Fatal(tick, got, at)
			}
			tick++
		}
	}
	for ; tick < 5000; tick++ {
		if got := impl.NoteAt(v, tick); got != -1 {
			t.Fatal(tick, got)
		}
	}
}

func TestP35OtherTicksHaveNoNote(t *testing.T) {
	var ticks []int
	for distance := 0; distance <= 800; distance++ {
		ticks = append(ticks, -1-distance, math.MinInt+distance, math.MaxInt-distance)
	}
	ticks = append(ticks, -1<<32, -1<<32+24, 1<<32, 1<<32+24, -1<<62, 1<<62)
	for _, v := range [][]impl.Note{nil, tiedRun(1, 1), tiedRun(1, 768), tiedRun(60, 768), notesOf(t, "r/24 C4/24")} {
		for _, tick := range ticks {
			if got := impl.NoteAt(v, tick); got != -1 {
				t.Fatal(v, tick, got)
			}
		}
	}
	if impl.NoteAt(nil, 0) != -1 || impl.NoteAt([]impl.Note{}, 0) != -1 {
		t.Fatal("no notes")
	}
}

func TestP35OtherVoicesHaveNoNotes(t *testing.T) {
	for _, v := range badVoices(t) {
		for _, tick := range []int{-1, 0, 1, 23, 24, 100, math.MinInt, math.MaxInt} {
			if got := impl.NoteAt(v, tick); got != -1 {
				t.Fatal(v, tick, got)
			}
		}
	}
}

func TestP36JoinedTiesSoundTheSame(t *testing.T) {
	for _, v := range goodVoices(t) {
		joined := impl.JoinTies(v)
		if !impl.VoiceValid(joined) || len(joined) > len(v) || impl.VoiceTicks(joined) != impl.VoiceTicks(v) {
			t.Fatal(v, joined)
		}
		if !slices.Equal(soundsOf(joined), soundsOf(v)) {
			t.Fatal(v, joined)
		}
		if again := impl.JoinTies(joined); !slices.Equal(again, joined) {
			t.Fatal(v, joined, again)
		}
		if want := joinedOf(v); !slices.Equal(joined, want) {
			t.Fatal(v, joined, want)
		}
	}
}

func TestP36TheSameIsFoundAtEveryTick(t *testing.T) {
	for _, v := range randomVoices()[:40] {
		joined := impl.JoinTies(v)
		for tick := range impl.VoiceTicks(v) {
			a, b := impl.NoteAt(v, tick), impl.NoteAt(joined, tick)
			if a < 0 || b < 0 || v[a].Rest != joined[b].Rest || v[a].Tone != joined[b].Tone {
				t.Fatal(v, joined, tick, a, b)
			}
		}
	}
}

func TestP36GroupsThatAreNotTooLongAreOneNote(t *testing.T) {
	for _, v := range goodVoices(t) {
		if groups := groupsOf(v); len(groups) > 0 && slices.Max(groups) <= 768 {
			var ticks []int
			for _, n := range impl.JoinTies(v) {
				if n.Tied {
					t.Fatal(v, n)
				}
				ticks = append(ticks, n.Ticks)
			}
			if !slices.Equal(ticks, groups) {
				t.Fatal(v, ticks, groups)
			}
		}
	}
}

func TestP36JoinedTiesByText(t *testing.T) {
	cases := []struct{ voice, joined string }{
		{"", ""},
		{"C4/48", "C4/48"},
		{"C4/48~ C4/24", "C4/72"},
		{"C4/48~ C4/48~ C4/48 r/24 G4/48", "C4/144 r/24 G4/48"},
		{"r/24 r/24 C4/1~ C4/2~ C4/3~ C4/4 r/24", "r/24 r/24 C4/10 r/24"}, // rests stay apart
		{"C4/48 C4/48 C4/48~ C4/48", "C4/48 C4/48 C4/96"},                 // and so do notes that are not tied
		{"C4/48~ C4/48 C4/48~ C4/48", "C4/96 C4/96"},
		{"C0/1~ C0/1 r/1 C0/1", "C0/2 r/1 C0/1"},
		{"C#4/1~ C#4/1 Db4/1~ Db4/1", "C#4/2 Db4/2"},
		{"C4/384~ C4/384", "C4/768"}, // MaxTicks
		{"C4/384~ C4/385", "C4/384~ C4/385"},
		{"C4/767~ C4/1", "C4/768"},
		{"C4/767~ C4/2", "C4/767~ C4/2"},
		{"C4/1~ C4/768", "C4/1~ C4/768"},
		{"C4/768~ C4/1", "C4/768~ C4/1"},
		{"C4/768~ C4/768", "C4/768~ C4/768"},
		{"C4/256~ C4/256~ C4/256", "C4/768"},
		{"C4/256~ C4/256~ C4/257", "C4/512~ C4/257"}, // from the first note on
		{"C4/257~ C4/256~ C4/256", "C4/513~ C4/256"},
		{"C4/256~ C4/256~ C4/256~ C4/1", "C4/768~ C4/1"},
		{"C4/700~ C4/100~ C4/668", "C4/700~ C4/768"},
		{"C4/700~ C4/100~ C4/69", "C4/700~ C4/169"},
		{"C4/700~ C4/100~ C4/668~ C4/1", "C4/700~ C4/768~ C4/1"},
		{"C4/700~ C4/100~ C4/700~ C4/60 D4/9", "C4/700~ C4/100~ C4/760 D4/9"},
		{"C4/768~ C4/768~ C4/1~ C4/1 C4/5~ C4/5", "C4/768~ C4/768~ C4/2 C4/10"},
		{"D4/400~ D4/400 D4/400", "D4/400~ D4/400 D4/400"},
	}
	for _, c := range cases {
		if joined := impl.JoinTies(notesOf(t, c.voice)); !slices.Equal(joined, notesOf(t, c.joined)) {
			t.Fatal(c, joined)
		}
	}
}

func TestP36LongGroups(t *testing.T) {
	cases := []struct {
		ticks int
		want  []int
	}{
		{1, []int{60}},
		{12, []int{720}},
		{13, []int{767, 13}},
		{64, []int{768, 768, 768, 768, 768}},
		{65, []int{715, 715, 715, 715, 715, 325}},
		{384, slices.Repeat([]int{768}, 30)},
		{385, slices.Repeat([]int{385}, 60)},
		{768, slices.Repeat([]int{768}, 60)},
	}
	for _, c := range cases {
		joined := impl.JoinTies(tiedRun(60, c.ticks))
		var ticks []int
		for at, n := range joined {
			if n.Tied != (at < len(joined)-1) || n.Tone != (impl.Pitch{Octave: 4}) || n.Rest {
				t.Fatal(c, joined)
			}
			ticks = append(ticks, n.Ticks)
		}
		if !slices.Equal(ticks, c.want) {
			t.Fatal(c, ticks)
		}
	}
}

func TestP36OtherVoicesAreNotJoined(t *testing.T) {
	for _, v := range badVoices(t) {
		if joined := impl.JoinTies(v); len(joined) != 0 {
			t.Fatal(v, joined)
		}
	}
}

func TestP37MovedVoicesAreTheSameMoved(t *testing.T) {
	voices := append(randomVoices()[:40], notesOf(t, "C4/48~ C4/48 r/24 Bb4/24~ Bb4/1 r/1 F#3/768"), notesOf(t, "C0/1 r/1"), notesOf(t, "B8/1"), notesOf(t, "r/1 r/2"), nil)
	possible, impossible := 0, 0
	for _, v := range voices {
		for by := range validIntervals() {
			moved, ok := impl.ShiftVoice(v, by)
			want, wantOk := movedOf(v, by)
			if ok != wantOk || !slices.Equal(moved, want) {
				t.Fatal(v, by, moved, ok)
			}
			if !ok {
				impossible++
				continue
			}
			possible++
			if !impl.VoiceValid(moved) || impl.VoiceTicks(moved) != impl.VoiceTicks(v) {
				t.Fatal(v, by, moved)
			}
			if back, ok := impl.ShiftVoice(moved, impl.IntervalBack(by)); !ok || !slices.Equal(back, v) {
				t.Fatal(v, by, moved, back, ok)
			}
		}
	}
	if possible < 1000 || impossible < 1000 {
		t.Fatal(possible, impossible)
	}
}

func TestP37EveryPitchIsMovedByAddInterval(t *testing.T) {
	for _, p := range allPitches() {
		v := []impl.Note{{Rest: true, Ticks: 3}, {Tone: p, Ticks: 5, Tied: true}, {Tone: p, Ticks: 7}}
		for by := range validIntervals() {
			tone, wantOk := impl.AddInterval(p, by)
			moved, ok := impl.ShiftVoice(v, by)
			if ok != wantOk || ok != (len(moved) == 3) {
				t.Fatal(v, by, moved, ok)
			}
			if ok && !slices.Equal(moved, []impl.Note{v[0], {Tone: tone, Ticks: 5, Tied: true}, {Tone: tone, Ticks: 7}}) {
				t.Fatal(v, by, moved)
			}
		}
	}
}

func TestP37MovedVoicesByText(t *testing.T) {
	cases := []struct {
		voice         string
		steps, halves int
		moved         string
		ok            bool
	}{
		{"", 0, 0, "", true},
		{"", 21, 39, "", true},
		{"", -21, -39, "", true},
		{"", 22, 38, "", false}, // an invalid interval
		{"", 0, 4, "", false},
		{"r/24", 21, 36, "r/24", true}, // rests stay, however far
		{"r/24 r/1", -21, -36, "r/24 r/1", true},
		{"r/24", 1, -2, "", false},
		{"r/24", -22, -38, "", false},
		{"C4/48~ C4/48 r/24 G4/48", 4, 7, "G4/48~ G4/48 r/24 D5/48", true},
		{"G4/48~ G4/48 r/24 D5/48", -4, -7, "C4/48~ C4/48 r/24 G4/48", true},
		{"E4/1 F4/1 r/1", 1, 2, "F#4/1 G4/1 r/1", true},
		{"E4/1 F4/1 r/1", -1, -2, "D4/1 Eb4/1 r/1", true},
		{"C4/24 r/24", 0, 0, "C4/24 r/24", true},
		{"C4/24 r/24", 0, 1, "C#4/24 r/24", true},
		{"C4/24 r/24", 0, -1, "Cb4/24 r/24", true},
		{"C0/24 r/24", 1, 2, "D0/24 r/24", true}, // a rest is not C0
		{"C4/768~ C4/768~ C4/768", 7, 12, "C5/768~ C5/768~ C5/768", true},
		{"B8/1 C4/1 C4/1", 1, 1, "", false}, // the first one
		{"C4/1 B8/1 C4/1", 1, 1, "", false}, // one in the middle
		{"C4/1 C4/1 B8/1", 1, 1, "", false}, // the last one
		{"C4/1 C4/1 A8/1", 1, 1, "Db4/1 Db4/1 Bb8/1", true},
		{"C0/1 C4/1 C4/1", -1, -1, "", false},
		{"C4/1 C4/1 C0/1", -1, -1, "", false},
		{"C4/1 C4/1 D0/1", -1, -1, "B3/1 B3/1 C#0/1", true},
		{"C4/1 C##4/1", 0, 1, "", false}, // too many alterations
		{"C4/1 C#4/1", 0, 1, "C#4/1 C##4/1", true},
		{"C4/1~ C4/1 Dbb4/1 C4/1", 0, -1, "", false},
		{"C4/1 r/1 B8/1", 0, 2, "C##4/1 r/1 B##8/1", true},
		{"r/1 C5/1 C6/1", 21, 36, "", false},
		{"r/1 C5/1 B5/1", 21, 36, "r/1 C8/1 B8/1", true},
		{"C4/1", 8, 4, "", false}, // an invalid interval
		{"C4/1", 1, 6, "", false},
	}
	for _, c := range cases {
		moved, ok := impl.ShiftVoice(notesOf(t, c.voice), impl.Interval{Steps: c.steps, Halves: c.halves})
		if ok != c.ok || !slices.Equal(moved, notesOf(t, c.moved)) {
			t.Fatal(c, moved, ok)
		}
	}
}

func TestP37MovedInPartIsNotMoved(t *testing.T) {
	high := impl.Note{Tone: impl.Pitch{Step: 6, Octave: 8}, Ticks: 1}
	for count := 1; count <= 60; count++ {
		for at := range count {
			v := slices.Repeat(tiedRun(1, 24), count)
			v[at] = high
			if moved, ok := impl.ShiftVoice(v, impl.Interval{Steps: 1, Halves: 2}); ok || len(moved) != 0 {
				t.Fatal(count, at, moved, ok)
			}
			if moved, ok := impl.ShiftVoice(v, impl.Interval{Steps: -1, Halves: -2}); !ok || len(moved) != count {
				t.Fatal(count, at, moved, ok)
			}
		}
	}
}

func TestP37OtherArgumentsAreNotMoved(t *testing.T) {
	for _, by := range badIntervals() {
		for _, v := range [][]impl.Note{nil, {{Rest: true, Ticks: 24}}, {{Tone: impl.Pitch{Octave: 4}, Ticks: 24}}} {
			if moved, ok := impl.ShiftVoice(v, by); ok || len(moved) != 0 {
				t.Fatal(v, by, moved, ok)
			}
		}
	}
	for _, v := range badVoices(t) {
		for _, by := range []impl.Interval{{}, {Steps: 1, Halves: 2}, {Steps: -1, Halves: -2}, octave, {Steps: 0, Halves: -3}, {Steps: 22, Halves: 38}} {
			if moved, ok := impl.ShiftVoice(v, by); ok || len(moved) != 0 {
				t.Fatal(v, by, moved, ok)
			}
		}
	}
}

func TestP38TurningTwiceChangesNothing(t *testing.T) {
	for _, v := range goodVoices(t) {
		turned := impl.TurnVoice(v)
		if !impl.VoiceValid(turned) || len(turned) != len(v) || impl.VoiceTicks(turned) != impl.VoiceTicks(v) {
			t.Fatal(v, turned)
		}
		if twice := impl.TurnVoice(turned); !slices.Equal(twice, v) {
			t.Fatal(v, turned, twice)
		}
	}
}

func TestP38NotesAreInReverseOrder(t *testing.T) {
	for _, v := range goodVoices(t) {
		turned := impl.TurnVoice(v)
		for at, n := range v {
			mirror := turned[len(v)-1-at]
			if mirror.Rest != n.Rest || mirror.Tone != n.Tone || mirror.Ticks != n.Ticks {
				t.Fatal(v, turned, at)
			}
			// The tie between two notes stays between them, and is now one of the other note.
			if at > 0 && mirror.Tied != v[at-1].Tied || at == 0 && mirror.Tied {
				t.Fatal(v, turned, at)
			}
		}
	}
}

func TestP38TurnedVoicesByText(t *testing.T) {
	cases := []struct{ voice, turned string }{
		{"", ""},
		{"C4/48", "C4/48"},
		{"r/48", "r/48"},
		{"C4/48 D4/24", "D4/24 C4/48"},
		{"C4/48~ C4/24", "C4/24~ C4/48"},
		{"C4/1~ C4/2~ C4/3 r/24 G4/48", "G4/48 r/24 C4/3~ C4/2~ C4/1"},
		{"C4/1~ C4/2 C4/3", "C4/3 C4/2~ C4/1"},
		{"C4/1 C4/2~ C4/3", "C4/3~ C4/2 C4/1"},
		{"C0/1~ C0/2 r/3", "r/3 C0/2~ C0/1"},
		{"r/1 C4/2~ C4/3 D4/4~ D4/5~ D4/6 r/7 r/8", "r/8 r/7 D4/6~ D4/5~ D4/4 C4/3~ C4/2 r/1"},
		{"C4/768~ C4/1", "C4/1~ C4/768"},
	}
	for _, c := range cases {
		if turned := impl.TurnVoice(notesOf(t, c.voice)); !slices.Equal(turned, notesOf(t, c.turned)) {
			t.Fatal(c, turned)
		}
	}
}

func TestP38OtherVoicesAreNotTurned(t *testing.T) {
	for _, v := range badVoices(t) {
		if turned := impl.TurnVoice(v); len(turned) != 0 {
			t.Fatal(v, turned)
		}
	}
}

func TestP121TurnedVoicesJoinAlike(t *testing.T) {
	short, long := 0, 0
	for _, v := range goodVoices(t) {
		joined, turned := impl.JoinTies(v), impl.JoinTies(impl.TurnVoice(v))
		if impl.VoiceTicks(turned) != impl.VoiceTicks(joined) || impl.VoiceTicks(turned) != ticksOf(v) {
			t.Fatal(v, joined, turned)
		}
		if groups := groupsOf(v); len(groups) > 0 && slices.Max(groups) > 768 {
			long++
			continue
		}
		short++
		if len(turned) != len(joined) || !slices.Equal(turned, impl.TurnVoice(joined)) {
			t.Fatal(v, joined, turned)
		}
	}
	if short < 100 || long < 100 {
		t.Fatal(short, long)
	}
}

func TestP121TurnedVoicesJoinedByText(t *testing.T) {
	cases := []struct{ voice, joined string }{
		{"", ""},
		{"C4/48~ C4/24~ C4/12 r/24 G4/48", "G4/48 r/24 C4/84"},
		{"C4/767~ C4/1 D4/1~ D4/767", "D4/768 C4/768"},
		{"C4/767~ C4/2", "C4/2~ C4/767"},
		{"C4/256~ C4/256~ C4/257", "C4/513~ C4/256"}, // from its other end
		{"C4/700~ C4/60~ C4/300", "C4/360~ C4/700"},
		{"C4/48 C4/48~ C4/48", "C4/96 C4/48"},
	}
	for _, c := range cases {
		if joined := impl.JoinTies(impl.TurnVoice(notesOf(t, c.voice))); !slices.Equal(joined, notesOf(t, c.joined)) {
			t.Fatal(c, joined)
		}
	}
}

func TestP122MovingTwiceIsMoving(t *testing.T) {
	fifth, fourth := impl.Interval{Steps: 4, Halves: 7}, impl.Interval{Steps: 3, Halves: 5}
	ways := [][3]impl.Interval{
		{octave, impl.IntervalBack(fifth), fourth},
		{impl.IntervalBack(octave), fifth, impl.IntervalBack(fourth)},
		{fifth, fourth, octave},
		{fourth, impl.IntervalBack(octave), impl.IntervalBack(fifth)},
	}
	voices := append(goodVoices(t), notesOf(t, "C4/48~ C4/48 r/24 G4/48"))
	for _, p := range allPitches() {
		voices = append(voices, []impl.Note{{Rest: true, Ticks: 24}, {Tone: p, Ticks: 24, Tied: true}, {Tone: p, Ticks: 48}})
	}
	moved := 0
	for _, way := range ways {
		for _, v := range voices {
			first, ok := impl.ShiftVoice(v, way[0])
			if !ok {
				continue
			}
			second, ok := impl.ShiftVoice(first, way[1])
			once, onceOk := impl.ShiftVoice(v, way[2])
			if ok != onceOk || !slices.Equal(second, once) {
				t.Fatal(v, way, second, ok, once, onceOk)
			}
			moved++
		}
	}
	if moved < 1000 {
		t.Fatal(moved)
	}
}

func TestP122AllPairsOfWays(t *testing.T) {
	v := notesOf(t, "F4/1~ F4/2 r/3 D#4/4 Bb4/5")
	valid := validIntervals()
	for a := range valid {
		first, ok := impl.ShiftVoice(v, a)
		if !ok {
			continue
		}
		for b := range valid {
			if _, possible := valid[plus(a, b)]; !possible {
				continue
			}
			second, ok := impl.ShiftVoice(first, b)
			once, onceOk := impl.ShiftVoice(v, plus(a, b))
			if ok != onceOk || !slices.Equal(second, once) {
				t.Fatal(a, b, second, ok, once, onceOk)
			}
		}
	}
}

func TestP122FourthsByText(t *testing.T) {
	cases := []struct {
		voice, octaveUp, fourthUp string // empty where the voice cannot be moved
	}{
		{"C4/48~ C4/48 r/24 G4/48", "C5/48~ C5/48 r/24 G5/48", "F4/48~ F4/48 r/24 C5/48"},
		{"F4/24 r/1", "F5/24 r/1", "Bb4/24 r/1"},
		{"Fbb4/24", "Fbb5/24", ""},
		{"B7/1 C7/1", "B8/1 C8/1", "E8/1 F7/1"},
		{"C8/24", "", "F8/24"}, // the way over the octave is not possible
		{"G8/24", "", ""},
	}
	for _, c := range cases {
		v := notesOf(t, c.voice)
		up, ok := impl.ShiftVoice(v, octave)
		if ok != (c.octaveUp != "") || !slices.Equal(up, notesOf(t, c.octaveUp)) {
			t.Fatal(c, up, ok)
		}
		fourth, fourthOk := impl.ShiftVoice(v, impl.Interval{Steps: 3, Halves: 5})
		if fourthOk != (c.fourthUp != "") || !slices.Equal(fourth, notesOf(t, c.fourthUp)) {
			t.Fatal(c, fourth, fourthOk)
		}
		back, backOk := impl.ShiftVoice(up, impl.Interval{Steps: -4, Halves: -7})
		if ok && (backOk != fourthOk || !slices.Equal(back, fourth)) {
			t.Fatal(c, back, backOk)
		}
	}
}

// lent is a voice that stands in a longer array, with notes before and behind it to which nobody may write.
type lent struct {
	voice, whole, before []impl.Note
}

func lend(v []impl.Note) lent {
	// The notes around are such as a tie at the end could lead to, if somebody looked at them.
	around := slices.Repeat(tiedRun(1, 24), 70)
	whole := slices.Concat(around[:2], v, around)
	return lent{whole[2 : 2+len(v)], whole, slices.Clone(whole)}
}

func (l lent) check(t *testing.T) {
	t.Helper()
	if !slices.Equal(l.whole, l.before) {
		t.Fatal(l.whole, l.before)
	}
}

// checkNew fails if a call writes to its voice, or if what it returns shares memory with that or with what another call returns.
func checkNew(t *testing.T, v []impl.Note, call func(v []impl.Note) []impl.Note) {
	t.Helper()
	l := lend(v)
	first, second := call(l.voice), call(l.voice)
	l.check(t)
	want := slices.Clone(second)
	if !slices.Equal(first, want) {
		t.Fatal(v, first, want)
	}
	all := first[:cap(first)]
	for at := range all {
		all[at] = impl.Note{Ticks: -1}
	}
	l.check(t)
	if third := call(l.voice); !slices.Equal(second, want) || !slices.Equal(third, want) {
		t.Fatal(v, second, third, want)
	}
}

// lentVoices are the good voices, and the first of the bad ones: too many notes, and ties that lead nowhere.
func lentVoices(t *testing.T) [][]impl.Note {
	return slices.Concat(goodVoices(t), badVoices(t)[:60])
}

func TestP33ToP35VoicesAreOnlyRead(t *testing.T) {
	for _, v := range lentVoices(t) {
		l := lend(v)
		if valid := impl.VoiceValid(l.voice); valid != voiceIsValid(v) {
			t.Fatal(v, valid)
		}
		want := -1
		if voiceIsValid(v) {
			want = ticksOf(v)
		}
		if ticks := impl.VoiceTicks(l.voice); ticks != want {
			t.Fatal(v, ticks, want)
		}
		if at := impl.NoteAt(l.voice, max(want, 0)); at != -1 {
			t.Fatal(v, at)
		}
		l.check(t)
	}
}

func TestP36JoinedVoicesAreNewMemory(t *testing.T) {
	for _, v := range lentVoices(t) {
		checkNew(t, v, impl.JoinTies)
	}
}

func TestP37MovedVoicesAreNewMemory(t *testing.T) {
	for _, v := range lentVoices(t) {
		for _, by := range []impl.Interval{{}, {Steps: 1, Halves: 1}, {Steps: -1, Halves: -2}, {Steps: 22, Halves: 38}} {
			checkNew(t, v, func(v []impl.Note) []impl.Note {
				moved, _ := impl.ShiftVoice(v, by)
				return moved
			})
		}
	}
}

func TestP38TurnedVoicesAreNewMemory(t *testing.T) {
	for _, v := range lentVoices(t) {
		checkNew(t, v, impl.TurnVoice)
	}
}
