package tests

import (
	"math"
	"math/rand/v2"
	"slices"
	"testing"

	"loop.example/musicengine/impl"
)

// upFifth and upFourth are the two ways by which notes are answered, and upNinth is two of the first one.
var (
	upFifth  = impl.Interval{Steps: 4, Halves: 7}
	upFourth = impl.Interval{Steps: 3, Halves: 5}
	upNinth  = impl.Interval{Steps: 8, Halves: 14}
)

// theme is a voice in a key; both may be invalid.
type theme struct {
	fifths int
	minor  bool
	fifth  impl.Pitch // the tone on degree 4 of the key, in some octave
	voice  []impl.Note
}

// themeIn takes the tone on degree 4 from the scale that is written out.
func themeIn(t *testing.T, fifths int, minor bool, voice []impl.Note) theme {
	t.Helper()
	return theme{fifths, minor, writtenScale(t, fifths, minor)[4], voice}
}

// with is the same key with another voice.
func (h theme) with(voice []impl.Note) theme {
	h.voice = voice
	return h
}

// answer calls the program.
func (h theme) answer(head int) ([]impl.Note, bool) {
	return impl.TonalAnswer(h.fifths, h.minor, h.voice, head)
}

// headOf calls the program.
func (h theme) headOf(second []impl.Note) int {
	return impl.AnswerHead(h.fifths, h.minor, h.voice, second)
}

// isFifth reports whether a note sounds on degree 4 of the key, in any octave.
func (h theme) isFifth(n impl.Note) bool {
	return !n.Rest && sameTone(n.Tone, h.fifth)
}

// wanted is the answer to a valid voice in a valid key, made without the program: first everything a fifth above, then the fifths of the head again.
func (h theme) wanted(head int) ([]impl.Note, bool) {
	if head < 0 || head > len(h.voice) {
		return nil, false
	}
	answer := slices.Clone(h.voice)
	for at, n := range h.voice {
		by, ok := upFifth, true
		if at < head && h.isFifth(n) {
			by = upFourth
		}
		if !n.Rest {
			answer[at].Tone, ok = movedPitch(n.Tone, by)
		}
		if !ok {
			return nil, false
		}
	}
	if !voiceIsValid(answer) {
		return nil, false
	}
	return answer, true
}

// wantedHead tries all heads of a valid voice in a valid key.
func (h theme) wantedHead(second []impl.Note) int {
	for head := range len(h.voice) + 1 {
		if answer, ok := h.wanted(head); ok && slices.Equal(answer, second) {
			return head
		}
	}
	return -1
}

// answers are all wanted ones, each of them once.
func (h theme) answers() [][]impl.Note {
	var list [][]impl.Note
	for head := range len(h.voice) + 1 {
		answer, ok := h.wanted(head)
		same := func(other []impl.Note) bool { return slices.Equal(other, answer) }
		if ok && !slices.ContainsFunc(list, same) {
			list = append(list, answer)
		}
	}
	return list
}

// checkReal fails unless the program returns the real answer that is wanted, exactly if there is one. It returns whether there is one.
func checkReal(t *testing.T, v []impl.Note) bool {
	t.Helper()
	answer, ok := impl.RealAnswer(v)
	want, wantOk := movedOf(v, upFifth)
	if ok != wantOk || !slices.Equal(answer, want) {
		t.Fatal(v, answer, ok)
	}
	return ok
}

// checkNoReal fails if a voice has a real answer.
func checkNoReal(t *testing.T, v []impl.Note) {
	t.Helper()
	if answer, ok := impl.RealAnswer(v); ok || len(answer) != 0 {
		t.Fatal(v, answer, ok)
	}
}

// checkTonal fails unless the program returns the answer that is wanted, exactly if there is one. It returns whether there is one.
func checkTonal(t *testing.T, h theme, head int) bool {
	t.Helper()
	answer, ok := h.answer(head)
	want, wantOk := h.wanted(head)
	if ok != wantOk || !slices.Equal(answer, want) {
		t.Fatal(h, head, answer, ok)
	}
	return ok
}

// checkNoTonal fails if a voice has an answer.
func checkNoTonal(t *testing.T, h theme, head int) {
	t.Helper()
	if answer, ok := h.answer(head); ok || len(answer) != 0 {
		t.Fatal(h, head, answer, ok)
	}
}

// checkHead fails unless the program finds the head that is wanted.
func checkHead(t *testing.T, h theme, second []impl.Note, want int) {
	t.Helper()
	if got := h.headOf(second); got != want {
		t.Fatal(h, second, got, want)
	}
}

// keyNotes are notes of a key of which short voices are made: its fifth tied and not, in several octaves and altered, its tonic, which is where the fifth is answered, and a rest.
func keyNotes(t *testing.T, fifths int, minor bool) []impl.Note {
	t.Helper()
	scale := writtenScale(t, fifths, minor)
	fifth, tonic := scale[4], scale[0]
	high, low, raised := fifth, fifth, fifth
	high.Octave, low.Octave = 8, 0
	raised.Alter++
	return []impl.Note{
		{Tone: fifth, Ticks: 1}, {Tone: fifth, Ticks: 2, Tied: true}, {Tone: high, Ticks: 1}, {Tone: low, Ticks: 1},
		{Tone: raised, Ticks: 1}, {Tone: tonic, Ticks: 3, Tied: true}, {Tone: tonic, Ticks: 3}, {Rest: true, Ticks: 2},
	}
}

// eachShortTheme tries all short voices of such notes in all keys.
func eachShortTheme(t *testing.T, most int, try func(h theme)) {
	t.Helper()
	eachKey(func(fifths int, minor bool) {
		h := themeIn(t, fifths, minor, nil)
		for _, v := range listsOf(keyNotes(t, fifths, minor), most) {
			if voiceIsValid(v) {
				try(h.with(v))
			}
		}
	})
}

// randomThemes are themes of up to 60 notes in all keys, always the same ones for a seed, with rests and ties, many notes on degree 4, and some with alterations of their own.
func randomThemes(t *testing.T, seed uint64, rounds int) []theme {
	t.Helper()
	source := rand.New(rand.NewPCG(17, seed))
	var list []theme
	eachKey(func(fifths int, minor bool) {
		scale := writtenScale(t, fifths, minor)
		for round := range rounds {
			most, tie := source.IntN([]int{4, 8, 61}[round%3]), source.Float64()
			var v []impl.Note
			for len(v) < most {
				n := impl.Note{Tone: scale[source.IntN(8)], Ticks: 1 + source.IntN(48)}
				if source.IntN(3) == 0 {
					n.Tone = scale[4]
				}
				n.Tone.Octave += source.IntN(3) - 1
				if source.IntN(6) == 0 {
					n.Tone.Alter = source.IntN(3) - 1
				}
				if last := len(v) - 1; last >= 0 && v[last].Tied {
					n.Tone = v[last].Tone
				} else if source.IntN(6) == 0 {
					n = impl.Note{Rest: true, Ticks: n.Ticks}
				}
				n.Tied = !n.Rest && len(v)+1 < most && source.Float64() < tie
				v = append(v, n)
			}
			list = append(list, themeIn(t, fifths, minor, v))
		}
	})
	return list
}

// longThemes have as many notes as a voice can have: tied and not, on degree 4 and beside it, and rests.
func longThemes(t *testing.T, fifths int, minor bool) []theme {
	t.Helper()
	h := themeIn(t, fifths, minor, nil)
	tonic := writtenScale(t, fifths, minor)[0]
	group := func(tone impl.Pitch, count int) []impl.Note {
		run := tiedRun(count, 12)
		for at := range run {
			run[at].Tone = tone
		}
		return run
	}
	return []theme{
		h.with(group(h.fifth, 60)),
		h.with(group(tonic, 60)),
		h.with(slices.Repeat(group(h.fifth, 1), 60)),
		h.with(slices.Repeat(group(h.fifth, 3), 20)),
		h.with(slices.Repeat(slices.Concat(group(tonic, 2), group(h.fifth, 1)), 20)),
		h.with(slices.Repeat(notesOf(t, "r/768"), 60)),
		h.with(append(slices.Repeat(notesOf(t, "r/1"), 59), group(h.fifth, 1)...)),
		h.with(append(group(h.fifth, 1), slices.Repeat(group(tonic, 1), 59)...)),
	}
}

// themesWithoutTheFifth have no note on degree 4; some are near it.
func themesWithoutTheFifth(t *testing.T, fifths int, minor bool) []theme {
	t.Helper()
	h := themeIn(t, fifths, minor, nil)
	var all, near []impl.Note
	for degree, tone := range writtenScale(t, fifths, minor) {
		if degree != 4 {
			all = append(all, impl.Note{Tone: tone, Ticks: 24, Tied: true}, impl.Note{Tone: tone, Ticks: 12})
		}
	}
	for _, more := range []int{-1, 1} {
		tone := h.fifth
		tone.Alter += more
		near = append(near, impl.Note{Tone: tone, Ticks: 24}, impl.Note{Rest: true, Ticks: 24})
	}
	return []theme{h, h.with([]impl.Note{}), h.with(notesOf(t, "r/24")), h.with(notesOf(t, "r/24 r/768 r/1")), h.with(all), h.with(near), h.with(all[1:2]), h.with(near[:1])}
}

// manyThemes are random ones, long ones and ones without the fifth in all keys.
func manyThemes(t *testing.T, seed uint64, rounds int) []theme {
	t.Helper()
	list := randomThemes(t, seed, rounds)
	eachKey(func(fifths int, minor bool) {
		list = append(list, longThemes(t, fifths, minor)...)
		list = append(list, themesWithoutTheFifth(t, fifths, minor)...)
	})
	return list
}

// badHeads are no heads of a voice of so many notes.
func badHeads(count int) []int {
	return append([]int{-1, -2, -count - 1, count + 1, count + 2, count + 61, 1<<32 + count, -1<<32 + count}, farNumbers...)
}

func TestP78RealAnswersAreAFifthAbove(t *testing.T) {
	var possible tally
	for _, v := range append(goodVoices(t), sungVoices(t, 78, 300)...) {
		ok := checkReal(t, v)
		possible.add(ok)
		if !ok {
			continue
		}
		answer, _ := impl.RealAnswer(v)
		back, ok := impl.ShiftVoice(answer, negative(upFifth))
		if !ok || !slices.Equal(back, v) || !impl.VoiceValid(answer) || impl.VoiceTicks(answer) != impl.VoiceTicks(v) {
			t.Fatal(v, answer, back)
		}
	}
	possible.check(t, 100)
}

func TestP78AllPitches(t *testing.T) {
	var possible tally
	for _, p := range allPitches() {
		for _, v := range [][]impl.Note{
			{{Tone: p, Ticks: 5}},
			{{Tone: p, Ticks: 768, Tied: true}, {Tone: p, Ticks: 1}, {Rest: true, Ticks: 3}},
			{{Rest: true, Ticks: 1}, {Tone: impl.Pitch{Octave: 4}, Ticks: 1}, {Tone: p, Ticks: 1}},
		} {
			possible.add(checkReal(t, v))
		}
	}
	possible.check(t, 50)
}

// realByText are voices and their real answers; "none" where there is none.
var realByText = []struct{ voice, answer string }{
	{"", ""},
	{"r/24", "r/24"},
	{"r/24 r/1 r/768", "r/24 r/1 r/768"},
	{"C4/48 G4/48 G4/24", "G4/48 D5/48 D5/24"},
	{"C4/1 D4/2 E4/3 F4/4 G4/5 A4/6 B4/7", "G4/1 A4/2 B4/3 C5/4 D5/5 E5/6 F#5/7"},
	{"Cb4/24 C#4/24 C##4/24 Cbb4/24", "Gb4/24 G#4/24 G##4/24 Gbb4/24"},
	{"r/24 C4/24~ C4/768~ C4/1 r/24 Bb3/48 r/24", "r/24 G4/24~ G4/768~ G4/1 r/24 F4/48 r/24"},
	{"C4/24 C4/24", "G4/24 G4/24"},
	{"B4/24", "F#5/24"},
	{"B#4/24", "F##5/24"},
	{"B##4/24", "none"}, // three alterations
	{"C4/24 B##4/24", "none"},
	{"Bbb4/24", "Fb5/24"},
	{"Fbb4/24", "Cbb5/24"},
	{"C0/24", "G0/24"},
	{"Cbb0/24", "Gbb0/24"},
	{"E8/24", "B8/24"},
	{"E##8/24", "B##8/24"},
	{"F8/24", "none"}, // in octave 9
	{"B8/24", "none"},
	{"E8/24~ E8/24 r/1 F8/1", "none"},
	{"F7/24", "C8/24"},
	{"C4/24~", "none"}, // an invalid voice
	{"C4/24~ r/24", "none"},
	{"C4/24~ D4/24", "none"},
	{"r/24~", "none"},
	{"C4/0", "none"},
	{"r/0", "none"},
	{"C4/769", "none"},
}

func TestP78AnswersByText(t *testing.T) {
	for _, c := range realByText {
		v := notesOf(t, c.voice)
		if c.answer == "none" {
			checkNoReal(t, v)
			continue
		}
		if answer, ok := impl.RealAnswer(v); !ok || !slices.Equal(answer, notesOf(t, c.answer)) {
			t.Fatal(c, answer, ok)
		}
	}
	if answer, ok := impl.RealAnswer([]impl.Note{}); !ok || len(answer) != 0 {
		t.Fatal(answer, ok)
	}
}

func TestP78VoicesHaveALimit(t *testing.T) {
	for count := 1; count <= 130; count++ {
		for _, v := range [][]impl.Note{tiedRun(count, 12), slices.Repeat(tiedRun(1, 768), count), slices.Repeat([]impl.Note{{Rest: true, Ticks: 1}}, count)} {
			if count > 60 {
				checkNoReal(t, v)
				checkNoTonal(t, theme{voice: v}, 1)
			} else if !checkReal(t, v) || !checkTonal(t, themeIn(t, 0, false, v), 1) {
				t.Fatal(v)
			}
		}
	}
}

func TestP78OtherVoicesHaveNoRealAnswer(t *testing.T) {
	for _, bad := range badVoices(t) {
		checkNoReal(t, bad)
	}
	for _, p := range badPitches() {
		checkNoReal(t, []impl.Note{{Tone: p, Ticks: 24}})
		checkNoReal(t, []impl.Note{{Ticks: 24}, {Rest: true, Tone: p, Ticks: 24}, {Ticks: 1, Tied: true}})
	}
}

func TestP79ShortThemesAreAnswered(t *testing.T) {
	var possible tally
	eachShortTheme(t, 3, func(h theme) {
		for head := -1; head <= len(h.voice)+1; head++ {
			possible.add(checkTonal(t, h, head))
		}
	})
	possible.check(t, 10000)
}

func TestP79OtherThemesAreAnswered(t *testing.T) {
	var possible tally
	for _, h := range manyThemes(t, 79, 12) {
		for head := -1; head <= len(h.voice)+1; head++ {
			possible.add(checkTonal(t, h, head))
		}
	}
	possible.check(t, 1000)
}

func TestP79AllPitchesInAllKeys(t *testing.T) {
	var possible, alike tally
	eachKey(func(fifths int, minor bool) {
		for _, p := range allPitches() {
			h := themeIn(t, fifths, minor, []impl.Note{{Tone: p, Ticks: 5}})
			for head := range 2 {
				possible.add(checkTonal(t, h, head))
			}
			inside, _ := h.answer(1)
			outside, _ := h.answer(0)
			same := slices.Equal(inside, outside)
			if same == (h.isFifth(h.voice[0]) && len(inside) > 0) {
				t.Fatal(h, inside, outside)
			}
			alike.add(same)
		}
	})
	possible.check(t, 1000)
	alike.check(t, 200)
}

func TestP79WithHead0TheyAreReal(t *testing.T) {
	check := func(h theme) {
		answer, ok := h.answer(0)
		high, highOk := impl.RealAnswer(h.voice)
		if ok != highOk || !slices.Equal(answer, high) {
			t.Fatal(h, answer, high)
		}
	}
	eachShortTheme(t, 2, check)
	eachKey(func(fifths int, minor bool) {
		for _, h := range longThemes(t, fifths, minor) {
			check(h)
		}
	})
	for at, v := range goodVoices(t) {
		check(theme{fifths: at%15 - 7, minor: at%2 == 0, voice: v})
	}
}

func TestP79FifthsAreAnsweredByTonics(t *testing.T) {
	fifths, others := 0, 0
	for _, h := range randomThemes(t, 179, 9) {
		for head := range len(h.voice) + 1 {
			answer, ok := h.answer(head)
			if !ok {
				continue
			}
			if !impl.VoiceValid(answer) || len(answer) != len(h.voice) {
				t.Fatal(h, head, answer)
			}
			for at, n := range h.voice {
				degree, more := impl.DegreeOf(h.fifths, h.minor, answer[at].Tone)
				by, known := impl.IntervalOf(n.Tone, answer[at].Tone)
				switch {
				case n.Rest != answer[at].Rest || n.Ticks != answer[at].Ticks || n.Tied != answer[at].Tied || !known:
					t.Fatal(h, head, answer)
				case n.Rest:
					continue
				case at < head && h.isFifth(n):
					if degree != 0 || more != 0 || by != upFourth {
						t.Fatal(h, head, at, answer)
					}
					fifths++
				default:
					if by != upFifth {
						t.Fatal(h, head, at, answer)
					}
					others++
				}
			}
		}
	}
	if fifths < 5000 || others < 5000 {
		t.Fatal(fifths, others)
	}
}

func TestP79TonicsAndFifthsOfAllKeys(t *testing.T) {
	eachKey(func(fifths int, minor bool) {
		scale := writtenScale(t, fifths, minor)
		tonic, fifth, next := scale[0], scale[4], scale[7]
		// A fifth above the fifth is the tone on degree 1, an octave higher, in every key.
		above := scale[1]
		above.Octave++
		v := []impl.Note{{Tone: tonic, Ticks: 48}, {Tone: fifth, Ticks: 48}, {Tone: fifth, Ticks: 24}}
		for head, tones := range [][]impl.Pitch{{fifth, above, above}, {fifth, above, above}, {fifth, next, above}, {fifth, next, next}} {
			answer, ok := impl.TonalAnswer(fifths, minor, v, head)
			want := []impl.Note{{Tone: tones[0], Ticks: 48}, {Tone: tones[1], Ticks: 48}, {Tone: tones[2], Ticks: 24}}
			if !ok || !slices.Equal(answer, want) {
				t.Fatal(fifths, minor, head, answer, want)
			}
		}
	})
}

// answered is a voice in a key, a head, and the answer; "none" where there is none.
type answered struct {
	fifths int
	minor  bool
	voice  string
	head   int
	answer string
}

// tonalByText are answers that are written out.
var tonalByText = []answered{
	{0, false, "", 0, ""},
	{0, false, "", 1, "none"},
	{0, false, "", -1, "none"},
	{0, false, "r/24", 0, "r/24"},
	{0, false, "r/24", 1, "r/24"},
	{0, false, "r/24", 2, "none"},
	{-1, false, "r/24 r/1", 2, "r/24 r/1"}, // the fifth of F is C, and a rest is not C0
	{-1, false, "r/24 C0/24", 2, "r/24 F0/24"},
	{-1, false, "r/24 C0/24", 1, "r/24 G0/24"},
	{-1, false, "C0/24 r/24", 1, "F0/24 r/24"},
	{-1, true, "C0/24 r/24", 2, "G0/24 r/24"},
	{0, false, "C4/48 G4/48 G4/24", 0, "G4/48 D5/48 D5/24"},
	{0, false, "C4/48 G4/48 G4/24", 1, "G4/48 D5/48 D5/24"}, // just before a note on degree 4
	{0, false, "C4/48 G4/48 G4/24", 2, "G4/48 C5/48 D5/24"},
	{0, false, "C4/48 G4/48 G4/24", 3, "G4/48 C5/48 C5/24"},
	{0, false, "C4/48 G4/48 G4/24", 4, "none"},
	{0, false, "C4/48 G4/48 G4/24", -1, "none"},
	{0, true, "C4/48 G4/48 G4/24", 3, "G4/48 D5/48 D5/24"}, // the fifth of A minor is E
	{1, false, "C4/48 G4/48 G4/24", 3, "G4/48 D5/48 D5/24"},
	{-3, true, "C4/48 G4/48 G4/24", 3, "G4/48 C5/48 C5/24"},
	{-3, false, "C4/48 G4/48 G4/24", 3, "G4/48 D5/48 D5/24"},
	{8, false, "C4/48", 0, "none"},
	{-8, false, "C4/48", 0, "none"},
	{8, true, "", 0, "none"},
	{-8, true, "r/24", 1, "none"},
	{0, false, "G0/24 G1/24 G2/24 G3/24 G4/24 G5/24 G6/24 G7/24", 8, "C1/24 C2/24 C3/24 C4/24 C5/24 C6/24 C7/24 C8/24"},
	{0, false, "G#4/24 Gb4/24 G##4/24 Gbb4/24", 4, "D#5/24 Db5/24 D##5/24 Dbb5/24"}, // with a difference
	{0, false, "F##4/24 Abb4/24", 2, "C##5/24 Ebb5/24"},                             // sound like a fifth
	{0, false, "G8/24", 0, "none"},
	{0, false, "G8/24", 1, "none"}, // a fourth above is octave 9, too
	{-2, false, "F8/24", 1, "Bb8/24"},
	{-2, false, "F8/24", 0, "none"}, // only a fourth above is possible
	{-2, false, "F8/24 F8/24", 1, "none"},
	{-2, false, "F8/24 F8/24", 2, "Bb8/24 Bb8/24"},
	{-2, false, "F8/24~ F8/24", 2, "Bb8/24~ Bb8/24"},
	{-2, false, "F#8/24", 1, "none"},
	{-2, false, "F7/24 F8/24", 0, "none"},
	{-2, false, "F7/24 F8/24", 1, "none"},
	{-2, false, "F7/24 F8/24", 2, "Bb7/24 Bb8/24"},
	{0, true, "E8/24 E8/24", 1, "A8/24 B8/24"},
	{3, false, "E8/24 E8/24", 1, "A8/24 B8/24"},
	{0, false, "B4/24", 1, "F#5/24"},
	{0, false, "B##4/24", 1, "none"}, // too many alterations
	{0, false, "G4/24 B##4/24", 1, "none"},
	{7, false, "G#4/24 G4/24 G##4/24", 3, "C#5/24 D5/24 D##5/24"},
	{7, true, "E#4/24 E4/24 E##4/24", 3, "A#4/24 B4/24 B##4/24"},
	{-7, false, "Gb4/24 G4/24 Gbb4/24", 3, "Cb5/24 D5/24 Dbb5/24"},
	{-7, true, "Eb4/24 E4/24 Ebb4/24", 3, "Ab4/24 B4/24 Bbb4/24"},
	{1, false, "D4/24 F#4/24", 2, "G4/24 C#5/24"},
	{2, true, "F#4/24 F4/24", 2, "B4/24 C5/24"},
	{5, false, "F#4/24 F4/24", 2, "B4/24 C5/24"},
	{-5, false, "Ab4/24 A4/24", 2, "Db5/24 E5/24"},
	{-6, true, "Bb4/24 B4/24", 2, "Eb5/24 F#5/24"},
	{0, false, "G4/12~ G4/12", 0, "D5/12~ D5/12"},
	{0, false, "G4/12~ G4/12", 1, "none"}, // in a group of tied notes
	{0, false, "G4/12~ G4/12", 2, "C5/12~ C5/12"},
	{0, false, "G4/12 G4/12", 1, "C5/12 D5/12"},
	{0, false, "C4/12~ C4/12", 1, "G4/12~ G4/12"},
	{0, false, "G#4/12~ G#4/12", 1, "D#5/12~ D#5/12"},
	{0, false, "C4/1 G4/12~ G4/12~ G4/12 G4/1", 0, "G4/1 D5/12~ D5/12~ D5/12 D5/1"},
	{0, false, "C4/1 G4/12~ G4/12~ G4/12 G4/1", 1, "G4/1 D5/12~ D5/12~ D5/12 D5/1"},
	{0, false, "C4/1 G4/12~ G4/12~ G4/12 G4/1", 2, "none"},
	{0, false, "C4/1 G4/12~ G4/12~ G4/12 G4/1", 3, "none"},
	{0, false, "C4/1 G4/12~ G4/12~ G4/12 G4/1", 4, "G4/1 C5/12~ C5/12~ C5/12 D5/1"},
	{0, false, "C4/1 G4/12~ G4/12~ G4/12 G4/1", 5, "G4/1 C5/12~ C5/12~ C5/12 C5/1"},
	{0, false, "r/6 G4/12 r/6 G4/12 r/6", 1, "r/6 D5/12 r/6 D5/12 r/6"},
	{0, false, "r/6 G4/12 r/6 G4/12 r/6", 2, "r/6 C5/12 r/6 D5/12 r/6"},
	{0, false, "r/6 G4/12 r/6 G4/12 r/6", 3, "r/6 C5/12 r/6 D5/12 r/6"},
	{0, false, "r/6 G4/12 r/6 G4/12 r/6", 4, "r/6 C5/12 r/6 C5/12 r/6"},
	{0, false, "r/6 G4/12 r/6 G4/12 r/6", 5, "r/6 C5/12 r/6 C5/12 r/6"},
	{0, false, "C4/12 E4/12 F4/12", 2, "G4/12 B4/12 C5/12"}, // without the fifth
	{0, false, "G4/24~", 1, "none"},                         // an invalid voice
	{0, false, "G4/24~ D5/24", 1, "none"},
	{0, false, "G4/24~ F4/24", 1, "none"}, // the tie would lead to the same pitch
	{0, false, "G4/24~ r/24", 0, "none"},
	{0, false, "G4/0", 0, "none"},
	{0, false, "G4/769", 0, "none"},
}

func TestP79AnswersByText(t *testing.T) {
	for _, c := range tonalByText {
		h := theme{fifths: c.fifths, minor: c.minor, voice: notesOf(t, c.voice)}
		if c.answer == "none" {
			checkNoTonal(t, h, c.head)
			continue
		}
		if answer, ok := h.answer(c.head); !ok || !slices.Equal(answer, notesOf(t, c.answer)) {
			t.Fatal(c, answer, ok)
		}
	}
}

func TestP79OtherHeadsHaveNoAnswer(t *testing.T) {
	eachShortTheme(t, 1, func(h theme) {
		for _, head := range badHeads(len(h.voice)) {
			checkNoTonal(t, h, head)
		}
	})
	for _, h := range slices.Concat(longThemes(t, 0, false), themesWithoutTheFifth(t, 0, false)) {
		for _, head := range badHeads(len(h.voice)) {
			checkNoTonal(t, h, head)
		}
	}
}

func TestP79OtherKeysHaveNoAnswer(t *testing.T) {
	for _, fifths := range badKeys() {
		for _, minor := range modes {
			for _, v := range beside(t) {
				h := theme{fifths: fifths, minor: minor, voice: v}
				for _, head := range []int{-1, 0, 1, len(v), len(v) + 1} {
					checkNoTonal(t, h, head)
				}
			}
		}
	}
}

func TestP79OtherVoicesHaveNoAnswer(t *testing.T) {
	for _, bad := range badVoices(t) {
		for _, fifths := range []int{-7, -1, 0, 7} {
			for _, minor := range modes {
				h := theme{fifths: fifths, minor: minor, voice: bad}
				for _, head := range []int{0, 1, len(bad)} {
					checkNoTonal(t, h, head)
				}
			}
		}
	}
}

// checkLeast fails unless the head that the program finds for one of the program's own answers makes this answer, and no lesser head does.
func checkLeast(t *testing.T, h theme, second []impl.Note) {
	t.Helper()
	least := h.headOf(second)
	if answer, ok := h.answer(least); !ok || !slices.Equal(answer, second) {
		t.Fatal(h, second, least, answer)
	}
	for head := range least {
		if answer, ok := h.answer(head); ok && slices.Equal(answer, second) {
			t.Fatal(h, second, least, head)
		}
	}
}

func TestP80HeadsAreTheLeast(t *testing.T) {
	var lesser tally
	check := func(h theme) {
		for head := range len(h.voice) + 1 {
			if second, ok := h.answer(head); ok {
				checkLeast(t, h, second)
				want := h.wantedHead(second)
				checkHead(t, h, second, want)
				lesser.add(want < head)
			}
		}
	}
	eachShortTheme(t, 3, check)
	for _, h := range randomThemes(t, 80, 6) {
		check(h)
	}
	for _, h := range slices.Concat(longThemes(t, 0, false), longThemes(t, -7, true), longThemes(t, 7, false), longThemes(t, -1, false)) {
		check(h)
	}
	lesser.check(t, 10000)
}

func TestP80ShortSecondVoices(t *testing.T) {
	var heads tally
	eachKey(func(fifths int, minor bool) {
		h := themeIn(t, fifths, minor, nil)
		notes := keyNotes(t, fifths, minor)
		others := slices.Clone(wrongNotes()[:3])
		for _, n := range notes {
			for _, by := range []impl.Interval{upFifth, upFourth} {
				moved := n
				if tone, ok := movedPitch(n.Tone, by); ok && !n.Rest {
					moved.Tone = tone
				}
				others = append(others, moved)
			}
		}
		seconds := listsOf(others, 2)
		for _, v := range listsOf(notes, 2) {
			if !voiceIsValid(v) {
				continue
			}
			for _, second := range seconds {
				want := h.with(v).wantedHead(second)
				checkHead(t, h.with(v), second, want)
				heads.add(want >= 0)
			}
		}
	})
	heads.check(t, 1000)
}

func TestP80ChangedAnswers(t *testing.T) {
	var heads tally
	for _, h := range manyThemes(t, 180, 4) {
		if len(h.voice) > 14 {
			continue
		}
		for _, answer := range h.answers() {
			for _, second := range changedVoices(answer) {
				want := h.wantedHead(second)
				checkHead(t, h, second, want)
				heads.add(want >= 0)
			}
		}
	}
	heads.check(t, 1000)
}

// The notes on degree 4 are answered one way or the other, each for itself.
func TestP80MixedAnswers(t *testing.T) {
	var heads tally
	for _, h := range randomThemes(t, 280, 9) {
		var fifths []int
		for at, n := range h.voice {
			if h.isFifth(n) {
				fifths = append(fifths, at)
			}
		}
		high, ok := h.wanted(0)
		if !ok || len(fifths) > 6 {
			continue
		}
		for choice := range 1 << len(fifths) {
			second := slices.Clone(high)
			for number, at := range fifths {
				if choice>>number&1 == 1 {
					second[at].Tone, _ = movedPitch(h.voice[at].Tone, upFourth)
				}
			}
			want := h.wantedHead(second)
			checkHead(t, h, second, want)
			heads.add(want >= 0)
		}
	}
	heads.check(t, 300)
}

func TestP80TheVoiceItselfIsNoAnswer(t *testing.T) {
	check := func(h theme) {
		sounds := slices.ContainsFunc(h.voice, func(n impl.Note) bool { return !n.Rest })
		want := 0
		if sounds {
			want = -1
		}
		checkHead(t, h, h.voice, want)
		checkHead(t, h, slices.Clone(h.voice), want)
	}
	eachShortTheme(t, 2, check)
	for at, v := range goodVoices(t) {
		check(theme{fifths: at%15 - 7, minor: at%2 == 0, voice: v})
	}
}

func TestP80RealAnswersNeedNoHead(t *testing.T) {
	found := 0
	for at, v := range append(goodVoices(t), sungVoices(t, 80, 200)...) {
		second, ok := movedOf(v, upFifth)
		if !ok {
			continue
		}
		found++
		checkHead(t, theme{fifths: at%15 - 7, minor: at%2 == 0, voice: v}, second, 0)
		checkHead(t, theme{fifths: 8 + at%15, minor: at%2 == 0, voice: v}, second, -1)
	}
	if found < 1000 {
		t.Fatal(found)
	}
}

func TestP80ThemesWithoutTheFifth(t *testing.T) {
	eachKey(func(fifths int, minor bool) {
		for _, h := range themesWithoutTheFifth(t, fifths, minor) {
			high, ok := movedOf(h.voice, upFifth)
			if !ok {
				t.Fatal(h)
			}
			for head := range len(h.voice) + 1 {
				if answer, ok := h.answer(head); !ok || !slices.Equal(answer, high) {
					t.Fatal(h, head, answer)
				}
			}
			checkHead(t, h, high, 0)
			if fourth, ok := movedOf(h.voice, upFourth); ok && !slices.Equal(fourth, high) {
				checkHead(t, h, fourth, -1)
			}
		}
	})
}

func TestP80LongThemes(t *testing.T) {
	eachKey(func(fifths int, minor bool) {
		themes := longThemes(t, fifths, minor)
		group, repeated := themes[0], themes[2]
		low, _ := movedOf(group.voice, upFourth)
		high, _ := movedOf(group.voice, upFifth)
		checkHead(t, group, low, 60)
		checkHead(t, group, high, 0)
		checkHead(t, group, slices.Concat(low[:30], high[30:]), -1)
		low, _ = movedOf(repeated.voice, upFourth)
		high, _ = movedOf(repeated.voice, upFifth)
		for head := range 61 {
			checkHead(t, repeated, slices.Concat(low[:head], high[head:]), head)
			want := -1
			if head%60 == 0 {
				want = 60 - head
			}
			checkHead(t, repeated, slices.Concat(high[:head], low[head:]), want)
		}
	})
}

// headsByText are a voice in a key, a second voice, and the least head.
var headsByText = []struct {
	fifths        int
	minor         bool
	voice, second string
	head          int
}{
	{0, false, "", "", 0},
	{8, false, "", "", -1},
	{-8, true, "", "", -1},
	{0, false, "", "r/24", -1},
	{0, false, "r/24", "", -1},
	{0, false, "r/24", "r/24", 0},
	{-1, false, "r/24", "r/24", 0},
	{-1, false, "r/24", "F0/24", -1}, // a rest is not C0, which is the fifth of F
	{-1, false, "r/24", "G0/24", -1},
	{-1, false, "C0/24", "r/24", -1},
	{-1, false, "C0/24", "F0/24", 1},
	{-1, false, "C0/24", "G0/24", 0},
	{8, false, "r/24", "r/24", -1},
	{0, false, "r/24", "r/25", -1},
	{0, false, "C4/48 G4/48 G4/24", "G4/48 D5/48 D5/24", 0},
	{0, false, "C4/48 G4/48 G4/24", "G4/48 C5/48 D5/24", 2},
	{0, false, "C4/48 G4/48 G4/24", "G4/48 C5/48 C5/24", 3},
	{0, false, "C4/48 G4/48 G4/24", "G4/48 D5/48 C5/24", -1}, // the first one is in the head as well
	{0, false, "C4/48 G4/48 G4/24", "F4/48 C5/48 D5/24", -1},
	{0, false, "C4/48 G4/48 G4/24", "C4/48 G4/48 G4/24", -1},
	{0, false, "C4/48 G4/48 G4/24", "G4/48 C5/48", -1},
	{0, false, "C4/48 G4/48 G4/24", "G4/48 C5/48 D5/24 D5/24", -1},
	{0, false, "C4/48 G4/48 G4/24", "G4/48 C5/48 D5/24 r/24", -1},
	{0, false, "C4/48 G4/48 G4/24", "G4/47 C5/48 D5/24", -1},
	{0, false, "C4/48 G4/48 G4/24", "G4/48 C5/47 D5/24", -1},
	{0, false, "C4/48 G4/48 G4/24", "G4/48 C5/48 D5/25", -1},
	{0, false, "C4/48 G4/48 G4/24", "G4/48 C5/48~ C5/24", -1},
	{0, false, "C4/48 G4/48 G4/24", "G4/48 C6/48 D5/24", -1},
	{0, false, "C4/48 G4/48 G4/24", "G4/48 B#4/48 D5/24", -1}, // sounds the same
	{0, false, "C4/48 G4/48 G4/24", "G3/48 D4/48 D4/24", -1},  // an octave lower
	{0, true, "C4/48 G4/48 G4/24", "G4/48 C5/48 D5/24", -1},   // in other keys
	{1, false, "C4/48 G4/48 G4/24", "G4/48 C5/48 D5/24", -1},
	{-3, true, "C4/48 G4/48 G4/24", "G4/48 C5/48 D5/24", 2},
	{8, false, "C4/48 G4/48 G4/24", "G4/48 C5/48 D5/24", -1},
	{0, false, "G4/24 C4/24 E4/24", "C5/24 G4/24 B4/24", 1}, // of several heads
	{0, false, "G4/24 C4/24 E4/24", "D5/24 G4/24 B4/24", 0},
	{0, false, "C4/24 E4/24 G4/24", "G4/24 B4/24 C5/24", 3},
	{0, false, "C4/24 E4/24 F4/24", "G4/24 B4/24 C5/24", 0}, // without the fifth
	{0, false, "C4/24 E4/24 F4/24", "F4/24 A4/24 Bb4/24", -1},
	{0, false, "G#4/24", "D#5/24", 0},
	{0, false, "G#4/24", "C#5/24", -1}, // with a difference
	{0, false, "Gb4/24 G4/24", "Db5/24 C5/24", 2},
	{0, false, "G4/24 Gb4/24", "C5/24 Cb5/24", -1},
	{0, false, "G2/24 G7/24", "C3/24 D8/24", 1},
	{-2, false, "F8/24", "Bb8/24", 1}, // with a lesser head it is not possible
	{-2, false, "F8/24 F8/24", "Bb8/24 Bb8/24", 2},
	{-2, false, "F7/24 F8/24", "Bb7/24 Bb8/24", 2},
	{-2, false, "F7/24 F8/24", "C8/24 Bb8/24", -1},
	{0, false, "G4/12~ G4/12", "D5/12~ D5/12", 0},
	{0, false, "G4/12~ G4/12", "C5/12~ C5/12", 2}, // with a lesser one it is not a valid voice
	{0, false, "G4/12~ G4/12", "C5/12~ D5/12", -1},
	{0, false, "G4/12~ G4/12", "C5/12 D5/12", -1},
	{0, false, "G4/12~ G4/12", "C5/12 C5/12", -1},
	{0, false, "G4/12~ G4/12", "C5/24", -1},
	{0, false, "G4/12 G4/12", "C5/12~ C5/12", -1},
	{0, false, "G4/12 G4/12", "C5/12 D5/12", 1},
	{0, false, "r/6 G4/12 r/6 G4/12 r/6", "r/6 C5/12 r/6 D5/12 r/6", 2},
	{0, false, "r/6 G4/12 r/6 G4/12 r/6", "r/6 C5/12 r/6 C5/12 r/6", 4},
	{0, false, "r/6 G4/12 r/6 G4/12 r/6", "r/6 C5/12 r/6 r/12 r/6", -1},
	{7, false, "G#4/24", "C#5/24", 1},
	{-7, true, "Eb4/24", "Ab4/24", 1},
	{0, false, "B##4/24", "F##5/24", -1},
	{0, false, "G4/24~", "C5/24~", -1}, // both invalid
	{0, false, "G4/24~", "D5/24~", -1},
	{0, false, "G4/24", "C5/24~", -1},
	{0, false, "G4/24~ F4/24", "C5/24~ C5/24", -1}, // the first one invalid
	{0, false, "G4/24~ C4/24", "C5/24~ G4/24", -1},
	{0, false, "G4/0", "C5/0", -1},
	{0, false, "C4/769", "G4/769", -1},
	{0, false, "r/0", "r/0", -1},
}

func TestP80HeadsByText(t *testing.T) {
	for _, c := range headsByText {
		h := theme{fifths: c.fifths, minor: c.minor, voice: notesOf(t, c.voice)}
		checkHead(t, h, notesOf(t, c.second), c.head)
	}
	checkHead(t, theme{voice: []impl.Note{}}, nil, 0)
	checkHead(t, theme{}, []impl.Note{}, 0)
}

func TestP80OtherKeysHaveNoHead(t *testing.T) {
	for _, fifths := range badKeys() {
		for _, minor := range modes {
			for _, v := range beside(t) {
				h := theme{fifths: fifths, minor: minor, voice: v}
				high, _ := movedOf(v, upFifth)
				low, _ := movedOf(v, upFourth)
				for _, second := range [][]impl.Note{nil, v, high, low} {
					checkHead(t, h, second, -1)
				}
			}
		}
	}
}

// answersToBad are voices beside an invalid one: itself, none, and what would be its answers if it were valid.
func answersToBad(bad []impl.Note) [][]impl.Note {
	list := [][]impl.Note{bad, nil}
	for _, by := range []impl.Interval{upFifth, upFourth} {
		moved := slices.Clone(bad)
		for at, n := range bad {
			if n.Rest || !pitchIsValid(n.Tone) {
				continue
			}
			if tone, ok := movedPitch(n.Tone, by); ok {
				moved[at].Tone = tone
			}
		}
		list = append(list, moved)
	}
	return list
}

func TestP80OtherVoicesHaveNoHead(t *testing.T) {
	for _, bad := range badVoices(t) {
		for _, fifths := range []int{-1, 0, 8} {
			h := theme{fifths: fifths, minor: len(bad)%2 == 0, voice: bad}
			for _, second := range answersToBad(bad) {
				checkHead(t, h, second, -1)
				checkHead(t, h.with(second), bad, -1)
			}
			for _, v := range beside(t) {
				checkHead(t, h, v, -1)
				checkHead(t, h.with(v), bad, -1)
			}
		}
	}
	for _, ticks := range []int{math.MinInt, 0, 769, math.MaxInt} {
		checkHead(t, theme{voice: []impl.Note{{Rest: true, Ticks: ticks}}}, []impl.Note{{Rest: true, Ticks: ticks}}, -1)
	}
}

func TestP130RealAnswersOfRealAnswersAreANinthAbove(t *testing.T) {
	var possible tally
	voices := append(goodVoices(t), sungVoices(t, 130, 300)...)
	for _, p := range allPitches() {
		voices = append(voices, []impl.Note{{Tone: p, Ticks: 5}}, []impl.Note{{Rest: true, Ticks: 1}, {Tone: p, Ticks: 5, Tied: true}, {Tone: p, Ticks: 5}})
	}
	for _, v := range voices {
		once, onceOk := impl.RealAnswer(v)
		twice, ok := impl.RealAnswer(once)
		ok = ok && onceOk
		// A voice whose answer has no answer is not moved by a ninth either: each way leads further upwards, and adds sharps or takes away flats.
		ninth, ninthOk := impl.ShiftVoice(v, upNinth)
		want, wantOk := movedOf(v, upNinth)
		if ok != ninthOk || ok != wantOk || ok && (!slices.Equal(twice, ninth) || !slices.Equal(twice, want)) {
			t.Fatal(v, once, twice, ninth)
		}
		possible.add(ok)
	}
	possible.check(t, 100)
}

func TestP130AnswersByText(t *testing.T) {
	cases := []struct{ voice, once, twice string }{
		{"C4/48~ C4/48 r/24 G4/48", "G4/48~ G4/48 r/24 D5/48", "D5/48~ D5/48 r/24 A5/48"},
		{"E4/24 F4/24", "B4/24 C5/24", "F#5/24 G5/24"},
		{"A7/24", "E8/24", "B8/24"},
		{"Bb7/24", "F8/24", "none"}, // in octave 9
		{"C8/24", "G8/24", "none"},
		{"E#4/24", "B#4/24", "F##5/24"},
		{"E##4/24", "B##4/24", "none"}, // three alterations
		{"Bbb4/24", "Fb5/24", "Cb6/24"},
		{"r/24", "r/24", "r/24"},
		{"", "", ""},
	}
	for _, c := range cases {
		once, ok := impl.RealAnswer(notesOf(t, c.voice))
		if !ok || !slices.Equal(once, notesOf(t, c.once)) {
			t.Fatal(c, once, ok)
		}
		if c.twice == "none" {
			checkNoReal(t, once)
			continue
		}
		if twice, ok := impl.RealAnswer(once); !ok || !slices.Equal(twice, notesOf(t, c.twice)) {
			t.Fatal(c, twice, ok)
		}
	}
}

func TestP78AndP79AnswersAreNewMemory(t *testing.T) {
	for at, v := range lentVoices(t) {
		checkNew(t, v, func(v []impl.Note) []impl.Note {
			answer, _ := impl.RealAnswer(v)
			return answer
		})
		for _, head := range []int{0, 1, len(v), len(v) + 1} {
			checkNew(t, v, func(v []impl.Note) []impl.Note {
				answer, _ := impl.TonalAnswer(at%16-7, at%2 == 0, v, head)
				return answer
			})
		}
	}
}

func TestP80VoicesAreOnlyRead(t *testing.T) {
	for _, h := range randomThemes(t, 380, 3) {
		for _, second := range append(h.answers(), h.voice) {
			a, b := lend(h.voice), lend(second)
			checkHead(t, h.with(a.voice), b.voice, h.wantedHead(second))
			a.check(t)
			b.check(t)
		}
	}
	for _, v := range lentVoices(t) {
		a, b := lend(v), lend(v)
		theme{voice: a.voice}.headOf(b.voice)
		a.check(t)
		b.check(t)
	}
}
