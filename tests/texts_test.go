package tests

import (
	"math"
	"math/big"
	"math/rand/v2"
	"regexp"
	"slices"
	"strconv"
	"strings"
	"testing"

	"loop.example/musicengine/impl"
)

// notePattern is the shape of a note's text; which numbers and ties are valid is left to noteIsValid.
var notePattern = regexp.MustCompile(`^(?:r|([CDEFGAB])(|#|##|b|bb)([0-8]))/([1-9][0-9]{0,2})(~?)$`)

// noteTextOf and voiceTextOf write texts as chapter 8 says it, without the program, for valid notes and for others.
func noteTextOf(n impl.Note) string {
	text := "r"
	switch {
	case !n.Rest && pitchIsValid(n.Tone):
		text = expectedText(n.Tone)
	case !n.Rest:
		text = "H9"
	}
	text += "/" + strconv.Itoa(n.Ticks)
	if n.Tied {
		text += "~"
	}
	return text
}

func voiceTextOf(v []impl.Note) string {
	text := ""
	for at, n := range v {
		if at > 0 {
			text += " "
		}
		text += noteTextOf(n)
	}
	return text
}

// noteIn and voiceIn read texts without the program.
func noteIn(s string) (impl.Note, bool) {
	parts := notePattern.FindStringSubmatch(s)
	if parts == nil {
		return impl.Note{}, false
	}
	n := impl.Note{Rest: parts[1] == "", Tied: parts[5] == "~"}
	n.Ticks, _ = strconv.Atoi(parts[4])
	if !n.Rest {
		n.Tone = impl.Pitch{Step: slices.Index(stepNames, parts[1]), Octave: int(parts[3][0] - '0')}
		n.Tone.Alter = strings.Count(parts[2], "#") - strings.Count(parts[2], "b")
	}
	if !noteIsValid(n) {
		return impl.Note{}, false
	}
	return n, true
}

func voiceIn(s string) ([]impl.Note, bool) {
	var v []impl.Note
	if s == "" {
		return v, true
	}
	for _, word := range strings.Split(s, " ") {
		n, ok := noteIn(word)
		if !ok {
			return nil, false
		}
		v = append(v, n)
	}
	if !voiceIsValid(v) {
		return nil, false
	}
	return v, true
}

// checkNote fails unless a text is read exactly if it is the text of a note, and then as that note, whose text it is. It returns whether it is read.
func checkNote(t *testing.T, s string) bool {
	t.Helper()
	want, wantOk := noteIn(s)
	n, ok := impl.ReadNote(s)
	if ok != wantOk || n != want {
		t.Fatalf("%.200q: %v %v", s, n, ok)
	}
	if ok && impl.NoteText(n) != s {
		t.Fatalf("%.200q: %q", s, impl.NoteText(n))
	}
	return ok
}

// checkVoice is for voices what checkNote is for notes.
func checkVoice(t *testing.T, s string) bool {
	t.Helper()
	want, wantOk := voiceIn(s)
	v, ok := impl.ReadVoice(s)
	if ok != wantOk || !slices.Equal(v, want) {
		t.Fatalf("%.200q: %v %v", s, v, ok)
	}
	if ok && impl.VoiceText(v) != s {
		t.Fatalf("%.200q: %q", s, impl.VoiceText(v))
	}
	return ok
}

// checkNoNote and checkNoVoice fail if a text is read, whatever the reader of these tests says of it.
func checkNoNote(t *testing.T, s string) {
	t.Helper()
	if n, ok := impl.ReadNote(s); ok || n != (impl.Note{}) {
		t.Fatalf("%.200q: %v %v", s, n, ok)
	}
}

func checkNoVoice(t *testing.T, s string) {
	t.Helper()
	if v, ok := impl.ReadVoice(s); ok || len(v) != 0 {
		t.Fatalf("%.200q: %v %v", s, v, ok)
	}
}

// nearTexts calls try with all texts that have a byte more than a text, a byte less, or another byte.
func nearTexts(text string, try func(s string)) {
	for at := 0; at <= len(text); at++ {
		for b := range 256 {
			other := string([]byte{byte(b)})
			try(text[:at] + other + text[at:])
			if at < len(text) {
				try(text[:at] + other + text[at+1:])
			}
		}
		if at < len(text) {
			try(text[:at] + text[at+1:])
		}
	}
}

// randomTexts calls try with texts that are put together from what texts of voices have in them, and from what they have not, always the same ones.
func randomTexts(rounds int, try func(s string)) {
	source := rand.New(rand.NewPCG(8, 50))
	pieces := []string{"C4", "C4", "C#4", "Bbb8", "F##0", "r", "C9", "H4", "/", "48", "1", "768", "769", "0", "00", "-1", "+1", "~", "~", " ", "/24", "C4/24", "C4/24~ C4/1", "r/24", "\t", "\x00", "\xff", "\u00a0", "\u0664", "\u266f"}
	marks := []string{"", "~", "", "/", " ", "~~"}
	for round := range rounds {
		text := ""
		if round%2 == 0 {
			for range source.IntN(9) {
				text += pieces[source.IntN(len(pieces))]
			}
			try(text)
			continue
		}
		for at := range 1 + source.IntN(4) {
			if at > 0 {
				text += " "
			}
			text += pieces[source.IntN(8)] + "/" + pieces[9+source.IntN(8)] + marks[source.IntN(len(marks))]
		}
		try(text)
	}
}

// byteTexts are texts of arbitrary bytes, short and long ones, always the same ones.
func byteTexts() []string {
	source := rand.New(rand.NewPCG(8, 52))
	var list []string
	for round := range 3000 {
		bytes := make([]byte, source.IntN([]int{4, 12, 40, 2000}[round%4]))
		for at := range bytes {
			bytes[at] = byte(source.IntN(256))
		}
		list = append(list, string(bytes))
	}
	return list
}

// longTexts are texts of no note and no voice, so long that reading them again and again would be noticed.
func longTexts() []string {
	const long = 1 << 20
	var list []string
	for _, piece := range []string{" ", "/", "~", "0", "1", "9", "r", "C", "#", "b", "C4", "r/", "/1", "C4/", "\x00", "\xff", "C4/1 ", "r/1 ", "C4/1~ ", "C4/1~", "  C4/1", "C4/1  "} {
		run := strings.Repeat(piece, long/len(piece))
		list = append(list, run, "C4/1"+run, "C4/1~ "+run, run+" C4/1", "C4/"+run, "C4/"+run+"~", "r/"+run, "C"+run+"4/1", run+"/1")
	}
	return list
}

// fewNotes are valid notes, one of each kind, with the ends of every range.
func fewNotes(t *testing.T) []impl.Note {
	return notesOf(t, "C0/1 Cbb0/1~ B##8/768 B##8/768~ r/1 r/768 r/12 C#4/48~ Bb3/100 F##5/9~ A4/10 Gb2/99~ E8/767 Dbb7/700~")
}

// wrapped are decimal numbers of many digits that would be numbers of ticks if they wrapped around.
func wrapped() []string {
	var list []string
	for _, bits := range []uint{8, 16, 31, 32, 33, 62, 63, 64, 65, 128} {
		for _, times := range []int64{1, 2, 3, 10} {
			for _, ticks := range []int64{1, 24, 48, 767, 768} {
				number := new(big.Int).Lsh(big.NewInt(times), bits)
				if number.Add(number, big.NewInt(ticks)); number.Cmp(big.NewInt(768)) > 0 {
					list = append(list, number.String())
				}
			}
		}
	}
	return list
}

func TestP49TextsOfNotesCanBeRead(t *testing.T) {
	for _, p := range allPitches() {
		for ticks := 1; ticks <= 768; ticks++ {
			for _, tied := range []bool{false, true} {
				n := impl.Note{Tone: p, Ticks: ticks, Tied: tied}
				text := impl.NoteText(n)
				if text != noteTextOf(n) || strings.Contains(text, " ") {
					t.Fatalf("%v %q", n, text)
				}
				if read, ok := impl.ReadNote(text); !ok || read != n {
					t.Fatalf("%v %q %v %v", n, text, read, ok)
				}
			}
		}
	}
}

func TestP49TextsOfRestsCanBeRead(t *testing.T) {
	for ticks := 1; ticks <= 768; ticks++ {
		n := impl.Note{Rest: true, Ticks: ticks}
		text := impl.NoteText(n)
		if text != "r/"+strconv.Itoa(ticks) {
			t.Fatalf("%v %q", n, text)
		}
		if read, ok := impl.ReadNote(text); !ok || read != n {
			t.Fatalf("%v %q %v %v", n, text, read, ok)
		}
	}
}

func TestP49NotesByText(t *testing.T) {
	a4 := impl.Pitch{Step: 5, Octave: 4}
	cases := map[string]impl.Note{
		"C#4/48~":   {Tone: impl.Pitch{Alter: 1, Octave: 4}, Ticks: 48, Tied: true},
		"C0/1":      {Ticks: 1},
		"C0/1~":     {Ticks: 1, Tied: true},
		"r/1":       {Rest: true, Ticks: 1},
		"r/12":      {Rest: true, Ticks: 12},
		"r/768":     {Rest: true, Ticks: 768},
		"Cbb0/768":  {Tone: impl.Pitch{Alter: -2}, Ticks: 768},
		"B##8/768~": {Tone: impl.Pitch{Step: 6, Alter: 2, Octave: 8}, Ticks: 768, Tied: true},
		"Bb8/767":   {Tone: impl.Pitch{Step: 6, Alter: -1, Octave: 8}, Ticks: 767},
		"A4/9":      {Tone: a4, Ticks: 9},
		"A4/10":     {Tone: a4, Ticks: 10},
		"A4/99~":    {Tone: a4, Ticks: 99, Tied: true},
		"A4/100":    {Tone: a4, Ticks: 100},
		"A4/700":    {Tone: a4, Ticks: 700},
	}
	for text, n := range cases {
		if got := impl.NoteText(n); got != text {
			t.Fatal(n, got, text)
		}
		if read, ok := impl.ReadNote(text); !ok || read != n {
			t.Fatal(text, read, ok)
		}
	}
}

func TestP49NotesHaveDifferentTexts(t *testing.T) {
	texts := map[string]impl.Note{}
	for _, p := range allPitches() {
		for _, ticks := range []int{1, 2, 11, 12, 112, 121, 768} {
			for _, n := range []impl.Note{{Tone: p, Ticks: ticks}, {Tone: p, Ticks: ticks, Tied: true}, {Rest: true, Ticks: ticks}} {
				text := impl.NoteText(n)
				if other, ok := texts[text]; ok && other != n || text == "" {
					t.Fatal(n, other, text)
				}
				texts[text] = n
			}
		}
	}
	if want := 315*7*2 + 7; len(texts) != want {
		t.Fatal(len(texts), want)
	}
}

func TestP49OtherNotesHaveNoText(t *testing.T) {
	list := wrongNotes()
	for _, p := range badPitches() {
		list = append(list, impl.Note{Tone: p, Ticks: 24}, impl.Note{Tone: p, Ticks: 768, Tied: true}, impl.Note{Rest: true, Tone: p, Ticks: 24})
	}
	for _, p := range allPitches() {
		list = append(list, impl.Note{Rest: true, Tone: p, Ticks: 24, Tied: true}, impl.Note{Tone: p}, impl.Note{Tone: p, Ticks: 769})
		if p != (impl.Pitch{}) {
			list = append(list, impl.Note{Rest: true, Tone: p, Ticks: 24})
		}
	}
	for distance := range 1000 {
		for _, ticks := range []int{-distance, 769 + distance, math.MinInt + distance, math.MaxInt - distance} {
			list = append(list, impl.Note{Ticks: ticks}, impl.Note{Ticks: ticks, Tied: true}, impl.Note{Rest: true, Ticks: ticks})
		}
	}
	for ticks := 1; ticks <= 768; ticks++ {
		list = append(list, impl.Note{Rest: true, Ticks: ticks, Tied: true})
	}
	for _, n := range list {
		if text := impl.NoteText(n); text != "" || noteIsValid(n) {
			t.Fatalf("%v %q", n, text)
		}
	}
}

func TestP50TextsOfNotesWithSomethingBehindAreRefused(t *testing.T) {
	extras := []string{"/", "//", "/1", "/48", " ", "  ", "\n", "\x00", "r", "C4", "C4/48", " C4/48", " r/1", "/r/1", "-", "+", ".", "b", "#"}
	try := func(n impl.Note) {
		text := noteTextOf(n)
		if !checkNote(t, text) {
			t.Fatal(n, text)
		}
		for _, extra := range extras {
			checkNoNote(t, text+extra)
		}
	}
	for _, p := range allPitches() {
		for _, ticks := range []int{1, 9, 48, 76, 768} {
			try(impl.Note{Tone: p, Ticks: ticks})
			try(impl.Note{Tone: p, Ticks: ticks, Tied: true})
		}
	}
	for ticks := 1; ticks <= 768; ticks++ {
		try(impl.Note{Rest: true, Ticks: ticks})
		try(impl.Note{Tone: impl.Pitch{Octave: 4}, Ticks: ticks, Tied: true})
	}
}

func TestP50TextsNearThoseOfNotes(t *testing.T) {
	accepted := 0
	for _, n := range fewNotes(t) {
		nearTexts(noteTextOf(n), func(s string) {
			if checkNote(t, s) {
				accepted++
			}
		})
	}
	if accepted < 500 {
		t.Fatal(accepted)
	}
}

func TestP50ShortTexts(t *testing.T) {
	letters := "CBr#b/0178~"
	accepted := 0
	var try func(s string)
	try = func(s string) {
		if checkNote(t, s) {
			accepted++
		}
		if len(s) < 5 {
			for at := range len(letters) {
				try(s + letters[at:at+1])
			}
		}
	}
	try("")
	// 8 pitches without an alteration have 3 numbers with a digit, tied or not, and 12 with two; 16 with one have room for a digit; rests have 24 numbers with three digits, too.
	want := 8*(3+3+12) + 16*3 + (3 + 12 + 24)
	if accepted != want {
		t.Fatal(accepted, want)
	}
}

func TestP50RandomTexts(t *testing.T) {
	accepted := 0
	randomTexts(100000, func(s string) {
		if checkNote(t, s) {
			accepted++
		}
	})
	if accepted < 500 {
		t.Fatal(accepted)
	}
}

func TestP50NumbersAreCanonical(t *testing.T) {
	for _, name := range []string{"C4", "C0", "Bbb3", "r"} {
		for ticks := range 12000 {
			number := strconv.Itoa(ticks)
			n, ok := impl.ReadNote(name + "/" + number)
			if want := ticks >= 1 && ticks <= 768; ok != want || n.Ticks != ticks && ok {
				t.Fatal(name, ticks, n, ok)
			}
			if ticks > 800 {
				continue
			}
			for _, ahead := range []string{"0", "00", "000", strings.Repeat("0", 30), "+", "-", "+0", "-0", " ", "_", "0x", "0o", "0b", "\u0660", "."} {
				checkNoNote(t, name+"/"+ahead+number)
			}
			for _, behind := range []string{".", ".0", "e0", "_", "_0", "\u0660", " ", "-", "+", "t"} {
				checkNoNote(t, name+"/"+number+behind)
			}
			checkNoNote(t, name+"/"+number+"~~")
		}
	}
}

func TestP50NumbersThatNoIntHolds(t *testing.T) {
	numbers := wrapped()
	for count := 4; count <= 400; count++ {
		for _, digit := range []string{"1", "7", "9"} {
			numbers = append(numbers, strings.Repeat(digit, count), digit+strings.Repeat("0", count-1))
		}
		numbers = append(numbers, strings.Repeat("0", count), strings.Repeat("0", count)+"48", "48"+strings.Repeat("0", count), "1"+strings.Repeat("0", count)+"48")
	}
	for _, far := range farNumbers {
		numbers = append(numbers, strconv.Itoa(far))
	}
	for _, number := range numbers {
		for _, text := range []string{"C4/" + number, "C4/" + number + "~", "r/" + number, "r/-" + number} {
			checkNoNote(t, text)
			checkNoVoice(t, text)
			checkNoVoice(t, "C4/1 "+text+" C4/1")
		}
	}
}

func TestP50TextsOfNoNote(t *testing.T) {
	bad := []string{
		"", " ", "/", "//", "~", "C", "C4", "r", "48", "C4~", "r~", // no slash, or nothing but one
		"/12", "/48~", "~/48", "4/48", "#4/48", "C/48", "C#/48", " /48", // no pitch
		"C4/", "r/", "C4/~", "r/~", "C4/ ", // no number
		"C4//48", "C4/48/", "C4/4/8", "/C4/48", "C4/48/48", "C4/48~/", "C4/48/~", "r//12", // two slashes
		"C4/048", "C4/00", "C4/0", "C4/0~", "C4/01", "r/0", "r/012", "C4/0768", // zeros
		"C4/+48", "C4/-48", "C4/-0", "C4/+0", "C4/--1", "r/-1", "r/+1", // signs
		"C4/769", "C4/800", "C4/999", "C4/1000", "r/769", "C4/769~",
		"C4/12~~", "C4/12~~~", "C4/12~ ", "C4/12~/", "C4/12~0", "C4/12~r", "C4/12~C4/12", "C4/~12", "C4~/12", "~C4/12", "C4/1~2",
		"r/12~", "r/1~", "r/768~", "r/12~~", "R/12", "rr/12", "r4/12", "r#/12", "rest/12", " r/12", "r/12 ", "r /12", "r/ 12",
		"H4/12", "c4/12", "C9/12", "C-1/12", "C10/12", "C04/12", "C#b4/12", "C###4/12", "Cbbb4/12", "4C/12", "CC4/12", "C44/12",
		" C4/12", "C4/12 ", "C4 /12", "C4/ 12", "C4/1 2", "\tC4/12", "C4/12\t", "C4/12\n", "C4/12\r\n", "C4/12\x00", "\x00C4/12",
		"C4/12 C4/12", "C4/12~ C4/12", "C4:12", "C4\\12", "C4|12", "C4-12", "C412", "C4\u221512", "C4\uff0f12",
		"C4/1.5", "C4/1e2", "C4/0x10", "C4/1_0", "C4/\u0661", "C4/\u00b2", "C4/\uff14", "C4/12\u02dc", "C4/12\uff5e", "\ufeffC4/12", "C\u266f4/12",
		"r4/12~", "Cr/12", "C4r/12", "null", "C4/12;", "C4/12#", "C4/12b",
	}
	for _, s := range bad {
		checkNoNote(t, s)
		checkNote(t, s)
	}
	for b := range 256 {
		if b != '/' {
			checkNoNote(t, "C4"+string([]byte{byte(b)})+"48")
		}
	}
}

func TestP50ArbitraryAndLongTexts(t *testing.T) {
	for _, s := range byteTexts() {
		checkNote(t, s)
		checkNote(t, "C4/48"+s)
		checkNote(t, s+"C4/48")
		checkNote(t, "C4/"+s)
	}
	for _, s := range longTexts() {
		checkNoNote(t, s)
	}
}

func TestP51TextsOfVoicesCanBeRead(t *testing.T) {
	for _, v := range goodVoices(t) {
		text := impl.VoiceText(v)
		if text != voiceTextOf(v) {
			t.Fatalf("%v %q", v, text)
		}
		if read, ok := impl.ReadVoice(text); !ok || !slices.Equal(read, v) {
			t.Fatalf("%v %q %v %v", v, text, read, ok)
		}
	}
}

func TestP51TextsOfVoicesAreThoseOfTheirNotes(t *testing.T) {
	for _, v := range goodVoices(t) {
		text, want := impl.VoiceText(v), make([]string, len(v))
		for at, n := range v {
			want[at] = impl.NoteText(n)
		}
		if len(v) == 0 {
			want = []string{""}
		}
		if !slices.Equal(strings.Split(text, " "), want) {
			t.Fatalf("%v %q", v, text)
		}
	}
}

func TestP51EveryNoteAloneIsAVoice(t *testing.T) {
	for _, p := range allPitches() {
		for _, ticks := range []int{1, 48, 767, 768} {
			v := []impl.Note{{Tone: p, Ticks: ticks}}
			if text := impl.VoiceText(v); text != impl.NoteText(v[0]) || !checkVoice(t, text) {
				t.Fatalf("%v %q", v, text)
			}
			open := []impl.Note{{Tone: p, Ticks: ticks, Tied: true}}
			if text := impl.VoiceText(open); text != "" {
				t.Fatalf("%v %q", open, text)
			}
			checkNoVoice(t, impl.NoteText(open[0]))
		}
	}
}

func TestP51VoicesByText(t *testing.T) {
	cases := []string{
		"",
		"C0/1",
		"r/1",
		"r/768",
		"B##8/768",
		"r/1 r/1",
		"C0/1 r/1 C0/1",
		"C4/48~ C4/24 r/24 G4/96",
		"C4/48 C4/24 r/24 G4/96",
		"C4/1~ C4/2~ C4/3~ C4/4",
		"r/24 C#4/1~ C#4/1 Db4/1~ Db4/1 r/768",
		"C4/768~ C4/768~ C4/768",
		"Cbb0/1~ Cbb0/768 B##8/768~ B##8/1",
		strings.Repeat("C4/1~ ", 59) + "C4/1",
		strings.Repeat("r/1 ", 59) + "r/1",
		strings.Repeat("B##8/768~ ", 59) + "B##8/768",
	}
	for _, text := range cases {
		v := notesOf(t, text)
		if got := impl.VoiceText(v); got != text {
			t.Fatalf("%q %q", text, got)
		}
		if read, ok := impl.ReadVoice(text); !ok || !slices.Equal(read, v) {
			t.Fatalf("%q %v %v", text, read, ok)
		}
	}
	if impl.VoiceText(nil) != "" || impl.VoiceText([]impl.Note{}) != "" {
		t.Fatal("no notes")
	}
	if v, ok := impl.ReadVoice(""); !ok || len(v) != 0 {
		t.Fatal("no notes", v, ok)
	}
}

func TestP51OtherVoicesHaveNoText(t *testing.T) {
	for _, v := range badVoices(t) {
		if text := impl.VoiceText(v); text != "" {
			t.Fatalf("%v %q", v, text)
		}
		// A rest with a pitch is written like one without, so the text of an invalid voice may be that of a valid one.
		checkVoice(t, voiceTextOf(v))
	}
}

func TestP51VoicesHaveALimit(t *testing.T) {
	for count := 1; count <= 130; count++ {
		for _, v := range [][]impl.Note{tiedRun(count, 12), slices.Repeat(tiedRun(1, 768), count), slices.Repeat([]impl.Note{{Rest: true, Ticks: 1}}, count)} {
			text, want := impl.VoiceText(v), voiceTextOf(v)
			if count > 60 {
				checkNoVoice(t, want)
				want = ""
			} else if !checkVoice(t, want) {
				t.Fatal(count, want)
			}
			if text != want {
				t.Fatal(count, text)
			}
		}
	}
}

func TestP51EveryNumberOfRests(t *testing.T) {
	for count := range 61 {
		v := slices.Repeat(fewNotes(t)[4:7], 20)[:count] // rests
		text := voiceTextOf(v)
		if read, ok := impl.ReadVoice(text); !ok || len(read) != count || !slices.Equal(read, v) {
			t.Fatalf("%d %q %v %v", count, text, read, ok)
		}
	}
}

// textVoices are valid voices of few notes of all kinds, near whose texts others are tried.
func textVoices(t *testing.T) [][]impl.Note {
	return [][]impl.Note{
		nil,
		notesOf(t, "C4/48"), notesOf(t, "r/1"), notesOf(t, "B##8/768"),
		notesOf(t, "C4/48~ C4/24 r/24 G4/96"),
		notesOf(t, "r/1 r/768 C0/1"),
		notesOf(t, "Cbb0/1~ Cbb0/12~ Cbb0/768"),
		notesOf(t, "F#3/7 F#3/70~ F#3/76 Gb3/767"),
	}
}

func TestP52TextsNearThoseOfVoices(t *testing.T) {
	accepted := 0
	for _, v := range textVoices(t) {
		nearTexts(voiceTextOf(v), func(s string) {
			if checkVoice(t, s) {
				accepted++
			}
		})
	}
	if accepted < 500 {
		t.Fatal(accepted)
	}
}

func TestP52RandomTexts(t *testing.T) {
	accepted, several := 0, 0
	randomTexts(200000, func(s string) {
		if checkVoice(t, s) {
			accepted++
			if strings.Contains(s, " ") {
				several++
			}
		}
	})
	if accepted < 1000 || several < 200 {
		t.Fatal(accepted, several)
	}
}

func TestP52TextsOfVoicesWithMoreAreRefused(t *testing.T) {
	for _, v := range goodVoices(t) {
		text := voiceTextOf(v)
		for _, more := range []string{" ", "  ", "\t", "\n", "/", "~", "\x00", "0x"} {
			checkNoVoice(t, more+text)
		}
		for _, more := range []string{" ", "  ", "\t", "\n", "/", "~~", "\x00", ",", " r/1~", " C4/1~"} {
			checkNoVoice(t, text+more)
		}
		// A text of one note has no space, and that of no note has none either.
		if strings.Contains(text, " ") {
			first := strings.Index(text, " ")
			last := strings.LastIndex(text, " ")
			for _, other := range []string{"", "  ", "\t", "\n", "\x00", ",", "/", "\u00a0", "_", " \x00", "\r\n"} {
				checkNoVoice(t, text[:first]+other+text[first+1:])
				checkNoVoice(t, text[:last]+other+text[last+1:])
			}
		}
	}
}

func TestP52OtherBytesInPlaceOfASpace(t *testing.T) {
	for _, text := range []string{"C4/48 C4/24", "C4/48~ C4/24", "r/24 r/24", "r/24 C4/24 r/1"} {
		space := strings.Index(text, " ")
		for b := range 256 {
			if b != ' ' {
				checkNoVoice(t, text[:space]+string([]byte{byte(b)})+text[space+1:])
			}
		}
	}
}

func TestP52TextsOfNoVoice(t *testing.T) {
	bad := []string{
		" ", "  ", "\t", "\n", "\x00", "~", "/", "r", "C4", "48", "-", "0",
		" C4/48", "C4/48 ", "  C4/48", "C4/48  ", " C4/48 ", "C4/48  D4/24", "C4/48   D4/24", "\tC4/48", "C4/48\n",
		"C4/48\tD4/24", "C4/48\nD4/24", "C4/48,D4/24", "C4/48, D4/24", "C4/48\u00a0D4/24", "C4/48\u2003D4/24", "C4/48D4/24", "r/24r/24", "C4/48~C4/48",
		"C4/48~", "C4/48 C4/48~", "r/24 C4/24~", "C0/1~", "C4/48~ C4/48~", // the last note is tied
		"C4/48~ D4/24", "C4/48~ C5/48", "C4/48~ C#4/48", "C#4/48~ Db4/48", "B3/1~ Cb4/1", "C4/48~ C4/48~ D4/48", "C4/1 D4/1~ E4/1", // to another pitch
		"C4/48~ r/48", "C0/48~ r/48", "C4/48~ r/48 C4/48", "r/48~", "r/48~ r/48", "r/48~ C0/48", "C4/48 r/48~ C4/48",
		"C4/48 C4", "C4/48 /48", "C4/48 C4/", "C4/48 48", "C4/48 r", "C4 C4/48", "C4/ C4/48", "/48 C4/48", "C4 /48", "C4/ 48", "C4/48 ~ C4/48", "C4/48 ~C4/48",
		"C4/48 C4/048", "C4/048 C4/48", "C4/0 C4/48", "C4/48 C4/0", "C4/48 C4/769", "C4/769 C4/48", "C4/+48 C4/48", "C4/48 C4/-48", "C4/48 r/+1",
		"C4/48~~ C4/48", "C4/48~ C4/48~~", "C4/48/ C4/48", "C4/48 C4/48/", "C4//48 C4/48", "C4/48 H4/48", "C4/48 c4/48", "C9/48 C4/48",
		"C4/48 C4/99999999999999999999", "C4/18446744073709551664 C4/48", "C4/48 r/18446744073709551640",
		strings.Repeat("C4/48 ", 60), strings.Repeat("C4/48 ", 60) + "C4/48", strings.Repeat("r/1 ", 60) + "r/1", strings.Repeat("C4/48 ", 60) + "x",
		strings.Repeat("C4/48~ ", 60) + "C4/48", strings.Repeat("C4/48~ ", 59) + "C4/48~", strings.Repeat("C4/48~ ", 59) + "D4/48",
		strings.Repeat("C4/48 ", 59) + "C4/48~", strings.Repeat("C4/48 ", 59), strings.Repeat("C4/48 ", 59) + " C4/48", " " + strings.Repeat("C4/48 ", 59) + "C4/48",
	}
	for _, s := range bad {
		checkNoVoice(t, s)
		checkVoice(t, s)
	}
}

func TestP52WrongWordsAreFoundEverywhere(t *testing.T) {
	for _, count := range []int{1, 2, 3, 59, 60} {
		for _, good := range []string{"C4/48", "r/1"} {
			words := slices.Repeat([]string{good}, count)
			if !checkVoice(t, strings.Join(words, " ")) {
				t.Fatal(count, good)
			}
			for at := range words {
				for _, wrong := range []string{"", "C4", "C4/", "C4/048", "C4/0", "C4/769", "r/1~", "C4/1~~", "/1", "C4/1/", "H4/1", "D4/1~", "x"} {
					other := slices.Clone(words)
					other[at] = wrong
					if count > 1 || wrong != "" {
						checkNoVoice(t, strings.Join(other, " "))
					}
				}
			}
		}
	}
}

func TestP52ArbitraryAndLongTexts(t *testing.T) {
	for _, s := range byteTexts() {
		checkVoice(t, s)
		checkVoice(t, "C4/48 "+s)
		checkVoice(t, s+" C4/48")
		checkVoice(t, "C4/48"+s+"C4/48")
	}
	for _, s := range longTexts() {
		checkNoVoice(t, s)
	}
}

func TestP51VoicesAreOnlyRead(t *testing.T) {
	for _, v := range lentVoices(t) {
		l, want := lend(v), ""
		if voiceIsValid(v) {
			want = voiceTextOf(v)
		}
		first, second := impl.VoiceText(l.voice), impl.VoiceText(l.voice)
		if first != want || second != want {
			t.Fatalf("%v %q %q", v, first, second)
		}
		l.check(t)
	}
}

func TestP51ReadVoicesAreNewMemory(t *testing.T) {
	for _, v := range goodVoices(t) {
		text := voiceTextOf(v)
		first, _ := impl.ReadVoice(text)
		second, ok := impl.ReadVoice(text)
		all := first[:cap(first)]
		for at := range all {
			all[at] = impl.Note{Ticks: -1}
		}
		third, again := impl.ReadVoice(text)
		if !ok || !again || !slices.Equal(second, v) || !slices.Equal(third, v) || impl.VoiceText(second) != text {
			t.Fatal(v, second, third)
		}
	}
}
