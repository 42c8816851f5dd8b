package tests

import (
	"math"
	"math/rand/v2"
	"slices"
	"testing"

	"loop.example/musicengine/impl"
)

// unitTicks holds the ticks of a beat for every unit, written out so that the tests do not depend on the program's numbers.
var unitTicks = map[int]int{2: 96, 4: 48, 8: 24, 16: 12}

// validMeters returns all valid meters.
func validMeters() []impl.Meter {
	var list []impl.Meter
	for _, unit := range []int{2, 4, 8, 16} {
		for beats := 1; beats <= 12; beats++ {
			list = append(list, impl.Meter{Beats: beats, Unit: unit})
		}
	}
	return list
}

func meterIsValid(m impl.Meter) bool {
	return slices.Contains(validMeters(), m)
}

// badMeters are invalid: each has a number of beats or a unit outside of its limits, or both.
func badMeters() []impl.Meter {
	list := []impl.Meter{{}, {Beats: 4, Unit: 3}, {Beats: 0, Unit: 4}, {Beats: 13, Unit: 4}, {Beats: -4, Unit: -4}}
	valid := validMeters()
	for beats := -15; beats <= 28; beats++ {
		for unit := -34; unit <= 70; unit++ {
			if m := (impl.Meter{Beats: beats, Unit: unit}); !slices.Contains(valid, m) {
				list = append(list, m)
			}
		}
	}
	for _, far := range append([]int{-192, -96, 96, 128, 192, 256, 1<<32 + 4, -1<<32 + 4, 1<<62 + 4, math.MinInt + 4}, farNumbers...) {
		for _, m := range valid {
			list = append(list, impl.Meter{Beats: far, Unit: m.Unit}, impl.Meter{Beats: m.Beats, Unit: far})
		}
		list = append(list, impl.Meter{Beats: far, Unit: far}, impl.Meter{Beats: far}, impl.Meter{Unit: far})
	}
	return list
}

// fewBadMeters has one meter for each way to be invalid.
func fewBadMeters() []impl.Meter {
	list := []impl.Meter{{}}
	for _, beats := range []int{0, 13, -1, -4, math.MinInt, math.MaxInt} {
		list = append(list, impl.Meter{Beats: beats, Unit: 4})
	}
	for _, unit := range []int{0, 1, 3, 32, -1, -4, math.MinInt, math.MaxInt} {
		list = append(list, impl.Meter{Beats: 4, Unit: unit})
	}
	return list
}

// barOf is the number of ticks of a bar of a valid meter, counted beat by beat.
func barOf(m impl.Meter) int {
	ticks := 0
	for range m.Beats {
		ticks += unitTicks[m.Unit]
	}
	return ticks
}

// beatOf is the meter whose bars are the beats of a meter.
func beatOf(m impl.Meter) impl.Meter {
	return impl.Meter{Beats: 1, Unit: m.Unit}
}

// splitOf divides the notes of a valid voice tick by tick, however many there are then.
func splitOf(v []impl.Note, m impl.Meter) []impl.Note {
	var split []impl.Note
	bar, over := barOf(m), 0
	for _, n := range v {
		for tick := range n.Ticks {
			if tick > 0 && over == 0 {
				split[len(split)-1].Tied = !n.Rest
			}
			if tick == 0 || over == 0 {
				split = append(split, impl.Note{Rest: n.Rest, Tone: n.Tone})
			}
			split[len(split)-1].Ticks++
			if over++; over == bar {
				over = 0
			}
		}
		split[len(split)-1].Tied = n.Tied
	}
	return split
}

// barsOf lays bars under a number of ticks, one after the other, and returns how many there are, and how many ticks the last one has left.
func barsOf(ticks int, m impl.Meter) (int, int) {
	bars := 0
	for ; ticks > 0; ticks -= barOf(m) {
		bars++
	}
	return bars, -ticks
}

func hasRest(v []impl.Note) bool {
	return slices.ContainsFunc(v, func(n impl.Note) bool { return n.Rest })
}

func hasTie(v []impl.Note) bool {
	return slices.ContainsFunc(v, func(n impl.Note) bool { return n.Tied })
}

// lengthsNearBars are numbers of ticks that end at, before or behind the ends of beats and bars, and some others.
var lengthsNearBars = []int{1, 11, 12, 13, 24, 36, 47, 48, 49, 96, 97, 143, 144, 145, 191, 192, 193, 288, 384, 385, 575, 576, 577, 767, 768}

// voicesNearBars are valid voices of few notes, always the same ones, that can often be divided: with ties, rests, or both.
func voicesNearBars() [][]impl.Note {
	source := rand.New(rand.NewPCG(6, 123))
	list := [][]impl.Note{nil, {}}
	for _, ticks := range lengthsNearBars {
		list = append(list, tiedRun(1, ticks), tiedRun(2, ticks), tiedRun(3, ticks), []impl.Note{{Rest: true, Ticks: ticks}},
			[]impl.Note{{Rest: true, Ticks: ticks}, {Rest: true, Ticks: ticks}}, []impl.Note{{Rest: true, Ticks: 768}, {Tone: impl.Pitch{Octave: 4}, Ticks: ticks}})
	}
	for round := range 400 {
		var v []impl.Note
		for count := source.IntN(12); len(v) < count; {
			n := impl.Note{Tone: impl.Pitch{Step: source.IntN(7), Octave: 4}, Ticks: lengthsNearBars[source.IntN(len(lengthsNearBars))]}
			if last := len(v) - 1; last >= 0 && v[last].Tied {
				n.Tone = v[last].Tone
			} else if round%2 == 0 && source.IntN(4) == 0 {
				n = impl.Note{Rest: true, Ticks: n.Ticks}
			}
			n.Tied = !n.Rest && len(v)+1 < count && source.IntN(3) == 0
			v = append(v, n)
		}
		list = append(list, v)
	}
	return list
}

// fullVoices are voices with 58 to 60 notes, among them those with exactly 60 notes, or one more, when they are divided.
func fullVoices(t *testing.T) [][]impl.Note {
	list := [][]impl.Note{
		tiedRun(1, 720), tiedRun(1, 721), tiedRun(1, 708), {{Rest: true, Ticks: 720}}, {{Rest: true, Ticks: 721}},
		tiedRun(30, 24), tiedRun(31, 24), tiedRun(15, 48), tiedRun(16, 48),
	}
	for _, count := range []int{58, 59, 60} {
		for _, ticks := range []int{1, 12, 13, 24, 48, 96, 191, 192, 768} {
			run := slices.Repeat(tiedRun(1, ticks), count)
			list = append(list, run, tiedRun(count, ticks), slices.Repeat([]impl.Note{{Rest: true, Ticks: ticks}}, count))
			for _, at := range []int{0, 30, count - 1} {
				for _, long := range notesOf(t, "C4/24 r/24 D4/25 C4/384 r/577 C4/768") {
					one := slices.Clone(run)
					one[at] = long
					list = append(list, one)
				}
			}
		}
	}
	return list
}

// barVoices are valid voices of all kinds.
func barVoices(t *testing.T) [][]impl.Note {
	list := slices.Concat(voicesNearBars(), fullVoices(t), goodVoices(t))
	for _, v := range list {
		if !voiceIsValid(v) {
			t.Fatal(v)
		}
	}
	return list
}

// fewVoices are short valid voices with which invalid meters are tried.
func fewVoices(t *testing.T) [][]impl.Note {
	return [][]impl.Note{nil, {}, notesOf(t, "C4/48"), notesOf(t, "r/768"), notesOf(t, "C4/144 D4/288"), tiedRun(60, 12)}
}

func TestP3SplitVoicesAreDividedAtBars(t *testing.T) {
	done, failed := 0, 0
	for _, v := range barVoices(t) {
		for _, m := range validMeters() {
			split, ok := impl.SplitBars(v, m)
			want := splitOf(v, m)
			if ok != (len(want) <= 60) {
				t.Fatal(v, m, split, ok, len(want))
			}
			if !ok {
				failed++
				if len(split) != 0 {
					t.Fatal(v, m, split)
				}
				continue
			}
			done++
			if !slices.Equal(split, want) {
				t.Fatal(v, m, split, want)
			}
		}
	}
	if done < 1000 || failed < 1000 {
		t.Fatal(done, failed)
	}
}

func TestP3SplitVoicesAreValid(t *testing.T) {
	for _, v := range barVoices(t) {
		for _, m := range validMeters() {
			split, ok := impl.SplitBars(v, m)
			if ok && (!impl.VoiceValid(split) || impl.VoiceTicks(split) != impl.VoiceTicks(v)) {
				t.Fatal(v, m, split)
			}
		}
	}
}

func TestP3NoNoteGoesBeyondABar(t *testing.T) {
	divided := 0
	for _, v := range barVoices(t) {
		for _, m := range validMeters() {
			split, ok := impl.SplitBars(v, m)
			begin := 0
			for _, n := range split {
				end := begin + n.Ticks
				if begin/barOf(m) != (end-1)/barOf(m) {
					t.Fatal(v, m, split)
				}
				begin = end
			}
			if again, okAgain := impl.SplitBars(split, m); ok && (!okAgain || !slices.Equal(again, split)) {
				t.Fatal(v, m, split, again)
			}
			if ok && len(split) > len(v) {
				divided++
			}
		}
	}
	if divided < 1000 {
		t.Fatal(divided)
	}
}

func TestP3SplitVoicesJoinAlike(t *testing.T) {
	joined, divided := 0, 0
	for _, v := range barVoices(t) {
		whole := impl.JoinTies(v)
		if hasRest(v) || hasTie(whole) {
			continue
		}
		for _, m := range validMeters() {
			split, ok := impl.SplitBars(v, m)
			if !ok {
				continue
			}
			if got := impl.JoinTies(split); !slices.Equal(got, whole) {
				t.Fatal(v, m, split, got, whole)
			}
			joined++
			if len(split) > len(v) {
				divided++
			}
		}
	}
	if joined < 1000 || divided < 300 {
		t.Fatal(joined, divided)
	}
}

func TestP3SplitVoicesSoundTheSame(t *testing.T) {
	for _, v := range voicesNearBars() {
		sounds := soundsOf(v)
		for _, m := range validMeters() {
			split, ok := impl.SplitBars(v, m)
			if !ok {
				continue
			}
			for tick, s := range soundsOf(split) {
				// A rest that is divided begins again; a note does not.
				if s != sounds[tick] && !(s.rest && sounds[tick].rest && tick%barOf(m) == 0) {
					t.Fatal(v, m, split, tick)
				}
			}
		}
	}
}

func TestP3SplitVoicesByText(t *testing.T) {
	cases := []struct {
		beats, unit  int
		voice, split string
	}{
		{4, 4, "", ""},
		{4, 4, "C4/144 D4/288", "C4/144 D4/48~ D4/192~ D4/48"},
		{4, 4, "r/200", "r/192 r/8"},
		{4, 4, "r/144 r/288 C4/1", "r/144 r/48 r/192 r/48 C4/1"},
		{4, 4, "C0/200 r/200", "C0/192~ C0/8 r/184 r/16"}, // a rest has the pitch C0
		{4, 4, "C4/192", "C4/192"},                        // exactly to the end of the bar
		{4, 4, "C4/191 D4/1 E4/192 r/192", "C4/191 D4/1 E4/192 r/192"},
		{4, 4, "C4/191 D4/2 E4/191", "C4/191 D4/1~ D4/1 E4/191"},
		{4, 4, "C4/193", "C4/192~ C4/1"},
		{4, 4, "r/193", "r/192 r/1"},
		{4, 4, "C4/1 r/192 C4/192", "C4/1 r/191 r/1 C4/191~ C4/1"},
		{4, 4, "C4/384 r/384", "C4/192~ C4/192 r/192 r/192"}, // over two bars, without a rest of it
		{4, 4, "C4/768", "C4/192~ C4/192~ C4/192~ C4/192"},
		{4, 4, "r/768", "r/192 r/192 r/192 r/192"},
		{4, 4, "C4/96 D4/768", "C4/96 D4/96~ D4/192~ D4/192~ D4/192~ D4/96"},
		{4, 4, "C4/144~ C4/288 D4/10", "C4/144~ C4/48~ C4/192~ C4/48 D4/10"}, // tied already
		{4, 4, "C4/200~ C4/200", "C4/192~ C4/8~ C4/184~ C4/16"},
		{4, 4, "C4/192~ C4/192", "C4/192~ C4/192"},
		{4, 4, "C4/192 C4/192", "C4/192 C4/192"}, // nothing is tied that was not
		{4, 4, "C4/100 C4/100 C4/100", "C4/100 C4/92~ C4/8 C4/100"},
		{4, 4, "C4/96~ C4/96 D4/96~ D4/97 r/5", "C4/96~ C4/96 D4/96~ D4/96~ D4/1 r/5"},
		{4, 4, "C#4/192~ C#4/384~ C#4/1", "C#4/192~ C#4/192~ C#4/192~ C#4/1"},
		{6, 8, "Bb3/145 r/143 r/1 r/144", "Bb3/144~ Bb3/1 r/143 r/1 r/143 r/1"},
		{3, 4, "C4/48 D4/48 E4/49", "C4/48 D4/48 E4/48~ E4/1"},
		{3, 4, "C4/768~ C4/97", "C4/144~ C4/144~ C4/144~ C4/144~ C4/144~ C4/48~ C4/96~ C4/1"},
		{1, 16, "C4/11 D4/3 r/30 E4/40~ E4/1", "C4/11 D4/1~ D4/2 r/10 r/12 r/8 E4/4~ E4/12~ E4/12~ E4/12~ E4/1"},
		{1, 2, "C4/97 r/95 C4/96", "C4/96~ C4/1 r/95 C4/96"},
		{12, 16, "C4/145 r/143 E4/1", "C4/144~ C4/1 r/143 E4/1"},
		{12, 8, "C4/288 D4/289 r/287", "C4/288 D4/288~ D4/1 r/287"},
		{12, 4, "C4/576 D4/576 E4/768", "C4/576 D4/576 E4/576~ E4/192"},
		{12, 2, "C4/768 D4/384 r/768 r/768", "C4/768 D4/384 r/768 r/384 r/384"}, // a bar is longer than a note can be
		{12, 2, "C4/768~ C4/768", "C4/768~ C4/384~ C4/384"},
	}
	for _, c := range cases {
		split, ok := impl.SplitBars(notesOf(t, c.voice), impl.Meter{Beats: c.beats, Unit: c.unit})
		if !ok || !slices.Equal(split, notesOf(t, c.split)) {
			t.Fatal(c, split, ok)
		}
	}
}

func TestP3SplitVoicesHaveALimit(t *testing.T) {
	twelve := impl.Meter{Beats: 1, Unit: 16}
	rest := func(ticks int) []impl.Note { return []impl.Note{{Rest: true, Ticks: ticks}} }
	short := func(count int) []impl.Note { return slices.Repeat(tiedRun(1, 12), count) }
	cases := []struct {
		voice []impl.Note
		count int // 0 where there are too many
	}{
		{short(60), 60},
		{tiedRun(60, 12), 60},
		{slices.Repeat(rest(12), 60), 60},
		{tiedRun(1, 720), 60},
		{tiedRun(1, 721), 0},
		{tiedRun(1, 768), 0},
		{rest(720), 60},
		{rest(721), 0},
		{slices.Repeat(tiedRun(1, 24), 30), 60},
		{slices.Repeat(tiedRun(1, 24), 31), 0},
		{tiedRun(30, 24), 60},
		{slices.Repeat(rest(24), 30), 60},
		{slices.Repeat(rest(24), 31), 0},
		{slices.Concat(tiedRun(1, 24), short(58)), 60},
		{slices.Concat(tiedRun(1, 24), short(59)), 0},
		{slices.Concat(short(58), tiedRun(1, 24)), 60},
		{slices.Concat(short(59), tiedRun(1, 24)), 0},
		{slices.Concat(short(30), rest(24), short(28)), 60},
		{slices.Concat(short(30), rest(24), short(29)), 0},
		{slices.Concat(short(59), tiedRun(1, 13)), 0},
		{slices.Concat(tiedRun(1, 1), short(29)), 59},
		{slices.Concat(tiedRun(1, 1), short(29), tiedRun(1, 11)), 60},
		{slices.Concat(tiedRun(1, 1), short(29), tiedRun(1, 12)), 0},
		{slices.Concat(short(59), tiedRun(1, 768)), 0},
		{slices.Repeat(tiedRun(1, 768), 60), 0},
	}
	for _, c := range cases {
		split, ok := impl.SplitBars(c.voice, twelve)
		if ok != (c.count > 0) || len(split) != c.count {
			t.Fatal(c, split, ok)
		}
	}
}

func TestP3OtherArgumentsAreNotSplit(t *testing.T) {
	for _, m := range badMeters() {
		for _, v := range fewVoices(t) {
			if split, ok := impl.SplitBars(v, m); ok || len(split) != 0 {
				t.Fatal(v, m, split, ok)
			}
		}
	}
	for _, v := range badVoices(t) {
		for _, m := range append(validMeters(), fewBadMeters()...) {
			if split, ok := impl.SplitBars(v, m); ok || len(split) != 0 {
				t.Fatal(v, m, split, ok)
			}
		}
	}
}

func TestP39MetersHaveBeats(t *testing.T) {
	valid := validMeters()
	if len(valid) != 48 {
		t.Fatal(len(valid))
	}
	for _, m := range valid {
		if !impl.MeterValid(m) {
			t.Fatal(m)
		}
	}
}

func TestP39OtherMetersAreInvalid(t *testing.T) {
	for _, unit := range []int{2, 4, 8, 16} {
		for _, beats := range []int{0, 13, 14, -1, -12, math.MinInt, math.MaxInt} {
			if m := (impl.Meter{Beats: beats, Unit: unit}); impl.MeterValid(m) {
				t.Fatal(m)
			}
		}
	}
	for beats := 1; beats <= 12; beats++ {
		for _, unit := range []int{0, 1, 3, 5, 6, 7, 9, 10, 12, 15, 17, 32, 64, -1, -2, -4, math.MinInt, math.MaxInt} {
			if m := (impl.Meter{Beats: beats, Unit: unit}); impl.MeterValid(m) {
				t.Fatal(m)
			}
		}
	}
	for _, m := range append(badMeters(), fewBadMeters()...) {
		if meterIsValid(m) || impl.MeterValid(m) {
			t.Fatal(m)
		}
	}
}

func TestP40BarsHaveBeats(t *testing.T) {
	for _, m := range validMeters() {
		ticks, beat := impl.BarTicks(m), impl.BarTicks(beatOf(m))
		if beat != unitTicks[m.Unit] || ticks != m.Beats*beat || ticks != barOf(m) {
			t.Fatal(m, ticks, beat)
		}
		if again := m.Beats * impl.WholeTicks / m.Unit; ticks != again {
			t.Fatal(m, ticks, again)
		}
	}
}

func TestP40BarsByNumber(t *testing.T) {
	cases := map[impl.Meter]int{
		{Beats: 4, Unit: 4}: 192, {Beats: 3, Unit: 4}: 144, {Beats: 6, Unit: 8}: 144, {Beats: 2, Unit: 2}: 192, {Beats: 5, Unit: 8}: 120, {Beats: 7, Unit: 16}: 84,
		{Beats: 1, Unit: 2}: 96, {Beats: 1, Unit: 4}: 48, {Beats: 1, Unit: 8}: 24, {Beats: 1, Unit: 16}: 12,
		{Beats: 12, Unit: 2}: 1152, {Beats: 12, Unit: 4}: 576, {Beats: 12, Unit: 8}: 288, {Beats: 12, Unit: 16}: 144,
	}
	for m, want := range cases {
		if ticks := impl.BarTicks(m); ticks != want {
			t.Fatal(m, ticks, want)
		}
	}
}

func TestP40OtherMetersHaveNoBars(t *testing.T) {
	for _, m := range append(badMeters(), fewBadMeters()...) {
		if ticks := impl.BarTicks(m); ticks != -1 {
			t.Fatal(m, ticks)
		}
	}
}

func TestP41EveryTickHasItsBeat(t *testing.T) {
	for _, m := range validMeters() {
		bar, beat, over := 0, 0, 0
		for tick := range 4000 {
			a, b, c := impl.BeatAt(m, tick)
			if a != bar || b != beat || c != over {
				t.Fatal(m, tick, a, b, c, bar, beat, over)
			}
			if over++; over == unitTicks[m.Unit] {
				beat, over = beat+1, 0
			}
			if beat == m.Beats {
				bar, beat = bar+1, 0
			}
		}
	}
}

func TestP41TicksHaveBeats(t *testing.T) {
	var ticks []int
	for distance := 0; distance <= 2400; distance++ {
		ticks = append(ticks, distance, math.MaxInt32-1200+distance, 1<<32-1200+distance, 1<<62-1200+distance, math.MaxInt-distance)
	}
	for _, m := range validMeters() {
		for _, tick := range ticks {
			bar, beat, over := impl.BeatAt(m, tick)
			if bar < 0 || beat < 0 || beat >= m.Beats || over < 0 || over >= unitTicks[m.Unit] || bar*barOf(m)+beat*unitTicks[m.Unit]+over != tick {
				t.Fatal(m, tick, bar, beat, over)
			}
			if tick > math.MaxInt-barOf(m) {
				continue
			}
			if nextBar, sameBeat, sameOver := impl.BeatAt(m, tick+barOf(m)); nextBar != bar+1 || sameBeat != beat || sameOver != over {
				t.Fatal(m, tick, nextBar, sameBeat, sameOver)
			}
		}
	}
}

func TestP41BeatsByNumber(t *testing.T) {
	cases := []struct{ beats, unit, tick, bar, beat, over int }{
		{4, 4, 0, 0, 0, 0},
		{4, 4, 47, 0, 0, 47}, // the last tick of a beat, and the first one of the next
		{4, 4, 48, 0, 1, 0},
		{4, 4, 191, 0, 3, 47}, // the last tick of a bar, and the first one of the next
		{4, 4, 192, 1, 0, 0},
		{4, 4, 200, 1, 0, 8},
		{4, 4, 383, 1, 3, 47},
		{4, 4, 384, 2, 0, 0},
		{6, 8, 143, 0, 5, 23},
		{6, 8, 144, 1, 0, 0},
		{3, 2, 287, 0, 2, 95},
		{3, 2, 288, 1, 0, 0},
		{1, 16, 11, 0, 0, 11},
		{1, 16, 12, 1, 0, 0},
		{1, 16, 25, 2, 0, 1},
		{1, 2, 96, 1, 0, 0},
		{12, 2, 1151, 0, 11, 95},
		{12, 2, 1152, 1, 0, 0},
		{12, 16, 143, 0, 11, 11},
		{12, 16, 46080, 320, 0, 0},
		{4, 4, math.MaxInt, math.MaxInt / 192, 2, 31},
		{1, 16, math.MaxInt, math.MaxInt / 12, 0, 7},
	}
	for _, c := range cases {
		bar, beat, over := impl.BeatAt(impl.Meter{Beats: c.beats, Unit: c.unit}, c.tick)
		if bar != c.bar || beat != c.beat || over != c.over {
			t.Fatal(c, bar, beat, over)
		}
	}
}

func TestP41OtherArgumentsHaveNoBeat(t *testing.T) {
	check := func(m impl.Meter, tick int) {
		if bar, beat, over := impl.BeatAt(m, tick); bar != -1 || beat != -1 || over != -1 {
			t.Fatal(m, tick, bar, beat, over)
		}
	}
	for _, m := range append(validMeters(), fewBadMeters()...) {
		for distance := 1; distance <= 1200; distance++ {
			check(m, -distance)
			check(m, math.MinInt+distance-1)
		}
		for _, tick := range []int{-1 << 32, -1<<32 + 48, math.MinInt32, -1 << 62} {
			check(m, tick)
		}
	}
	for _, m := range badMeters() {
		for _, tick := range []int{0, 1, 47, 192, -1, -192, math.MinInt, math.MaxInt} {
			check(m, tick)
		}
	}
}

func TestP42BarsAreCounted(t *testing.T) {
	for _, v := range barVoices(t) {
		ticks := ticksOf(v)
		for _, m := range validMeters() {
			bars := impl.BarCount(v, m)
			if bars < 0 || bars*barOf(m) < ticks || bars > 0 && (bars-1)*barOf(m) >= ticks {
				t.Fatal(v, m, bars)
			}
			if split, ok := impl.SplitBars(v, m); ok && impl.BarCount(split, m) != bars {
				t.Fatal(v, m, split, bars)
			}
			if ticks == 0 {
				continue
			}
			if last, _, _ := impl.BeatAt(m, ticks-1); last != bars-1 {
				t.Fatal(v, m, bars, last)
			}
		}
	}
}

func TestP42BarsByNumber(t *testing.T) {
	cases := []struct {
		beats, unit int
		voice       string
		bars        int
	}{
		{4, 4, "", 0},
		{12, 2, "", 0},
		{4, 4, "C4/1", 1},
		{4, 4, "C4/191", 1},
		{4, 4, "C4/192", 1},
		{4, 4, "C4/193", 2},
		{4, 4, "r/1", 1},
		{4, 4, "C4/144", 1},
		{4, 4, "C4/144 D4/288", 3},
		{4, 4, "C4/96~ C4/96 r/192", 2},
		{4, 4, "C4/96~ C4/96 r/192 r/1", 3},
		{4, 4, "r/768", 4},
		{1, 16, "C4/768", 64},
		{1, 16, "C4/768 r/1", 65},
		{12, 2, "C4/768 r/384", 1},
		{12, 2, "C4/768 r/385", 2},
		{6, 8, "C4/144 D4/144", 2},
		{6, 8, "C4/144 D4/143 E4/2", 3},
	}
	for _, c := range cases {
		if bars := impl.BarCount(notesOf(t, c.voice), impl.Meter{Beats: c.beats, Unit: c.unit}); bars != c.bars {
			t.Fatal(c, bars)
		}
	}
	if bars := impl.BarCount(slices.Repeat(tiedRun(1, 768), 60), impl.Meter{Beats: 1, Unit: 16}); bars != 3840 {
		t.Fatal(bars)
	}
	if impl.BarCount(nil, impl.Meter{Beats: 4, Unit: 4}) != 0 || impl.BarCount([]impl.Note{}, impl.Meter{Beats: 4, Unit: 4}) != 0 {
		t.Fatal("no notes")
	}
}

func TestP42OtherArgumentsHaveNoBars(t *testing.T) {
	for _, m := range badMeters() {
		for _, v := range fewVoices(t) {
			if bars := impl.BarCount(v, m); bars != -1 {
				t.Fatal(v, m, bars)
			}
		}
	}
	for _, v := range badVoices(t) {
		for _, m := range append(validMeters(), fewBadMeters()...) {
			if bars := impl.BarCount(v, m); bars != -1 {
				t.Fatal(v, m, bars)
			}
		}
	}
}

func TestP43FilledBarsAreFull(t *testing.T) {
	full, filledUp, failed := 0, 0, 0
	for _, v := range barVoices(t) {
		ticks := ticksOf(v)
		for _, m := range validMeters() {
			filled, ok := impl.FillBar(v, m)
			_, room := barsOf(ticks, m)
			if ok != (room == 0 || room <= 768 && len(v) < 60) {
				t.Fatal(v, m, filled, ok)
			}
			if !ok {
				failed++
				if len(filled) != 0 {
					t.Fatal(v, m, filled)
				}
				continue
			}
			want := slices.Clone(v)
			if full++; room > 0 {
				filledUp++
				want = append(want, impl.Note{Rest: true, Ticks: room})
			}
			if !slices.Equal(filled, want) {
				t.Fatal(v, m, filled, want)
			}
		}
	}
	if full-filledUp < 1000 || filledUp < 1000 || failed < 100 {
		t.Fatal(full, filledUp, failed)
	}
}

func TestP43FillingAgainChangesNothing(t *testing.T) {
	for _, v := range barVoices(t) {
		for _, m := range validMeters() {
			filled, ok := impl.FillBar(v, m)
			if !ok {
				continue
			}
			if ticks := impl.VoiceTicks(filled); ticks%barOf(m) != 0 || ticks != impl.BarCount(v, m)*barOf(m) || impl.BarCount(filled, m) != impl.BarCount(v, m) {
				t.Fatal(v, m, filled)
			}
			if again, ok := impl.FillBar(filled, m); !ok || !slices.Equal(again, filled) {
				t.Fatal(v, m, filled, again, ok)
			}
		}
	}
}

func TestP43FilledBarsByText(t *testing.T) {
	cases := []struct {
		beats, unit   int
		voice, filled string
		ok            bool
	}{
		{4, 4, "", "", true},
		{12, 2, "", "", true},
		{4, 4, "C4/144 D4/288", "C4/144 D4/288 r/144", true},
		{4, 4, "C4/192", "C4/192", true},
		{4, 4, "C4/191", "C4/191 r/1", true},
		{4, 4, "C4/193", "C4/193 r/191", true},
		{4, 4, "C4/1", "C4/1 r/191", true},
		{4, 4, "C4/96~ C4/95", "C4/96~ C4/95 r/1", true},
		{4, 4, "r/96", "r/96 r/96", true}, // rests stay apart
		{4, 4, "r/768", "r/768", true},
		{6, 8, "C4/100 r/20", "C4/100 r/20 r/24", true},
		{1, 16, "C4/13", "C4/13 r/11", true},
		{12, 4, "C4/1", "C4/1 r/575", true},
		{12, 2, "C4/384", "C4/384 r/768", true}, // a rest with MaxTicks ticks
		{12, 2, "C4/383", "", false},
		{12, 2, "C4/385", "C4/385 r/767", true},
		{12, 2, "C4/1", "", false},
		{12, 2, "r/1", "", false},
		{12, 2, "C4/768 D4/383", "C4/768 D4/383 r/1", true},
		{12, 2, "C4/768 D4/384", "C4/768 D4/384", true},
		{12, 2, "C4/768 D4/385", "", false},
		{12, 2, "C4/768 r/767", "", false},
		{12, 2, "C4/768 r/768", "C4/768 r/768 r/768", true},
		{9, 2, "C4/95", "", false},
		{9, 2, "C4/96", "C4/96 r/768", true},
		{9, 2, "C4/768 C4/95~ C4/1", "C4/768 C4/95~ C4/1", true},
		{8, 2, "C4/1", "C4/1 r/767", true},
	}
	for _, c := range cases {
		filled, ok := impl.FillBar(notesOf(t, c.voice), impl.Meter{Beats: c.beats, Unit: c.unit})
		if ok != c.ok || !slices.Equal(filled, notesOf(t, c.filled)) {
			t.Fatal(c, filled, ok)
		}
	}
}

func TestP43RestsThatFillHaveALimit(t *testing.T) {
	for _, m := range validMeters() {
		for begin := 1; begin <= barOf(m); begin++ {
			v := []impl.Note{{Tone: impl.Pitch{Octave: 4}, Ticks: min(begin, 768)}}
			if begin > 768 {
				v = append(v, impl.Note{Rest: true, Ticks: begin - 768})
			}
			filled, ok := impl.FillBar(v, m)
			if ok != (barOf(m)-begin <= 768) || ok && ticksOf(filled) != barOf(m) || !ok && len(filled) != 0 {
				t.Fatal(m, begin, filled, ok)
			}
		}
	}
}

func TestP43FilledVoicesHaveALimit(t *testing.T) {
	four := impl.Meter{Beats: 4, Unit: 4}
	cases := []struct {
		count, ticks int
		filled       int // 0 where there are too many
	}{
		{58, 47, 59},
		{59, 47, 60}, // MaxNotes - 1 notes, and a rest
		{59, 48, 60},
		{59, 192, 59},
		{60, 48, 60}, // MaxNotes notes in full bars
		{60, 192, 60},
		{60, 768, 60},
		{60, 47, 0}, // and in one that is not full
		{60, 1, 0},
		{60, 191, 0},
		{60, 767, 0},
	}
	for _, c := range cases {
		for _, v := range [][]impl.Note{tiedRun(c.count, c.ticks), slices.Repeat(tiedRun(1, c.ticks), c.count), slices.Repeat([]impl.Note{{Rest: true, Ticks: c.ticks}}, c.count)} {
			if filled, ok := impl.FillBar(v, four); ok != (c.filled > 0) || len(filled) != c.filled {
				t.Fatal(c, filled, ok)
			}
		}
	}
}

func TestP43OtherArgumentsAreNotFilled(t *testing.T) {
	for _, m := range badMeters() {
		for _, v := range fewVoices(t) {
			if filled, ok := impl.FillBar(v, m); ok || len(filled) != 0 {
				t.Fatal(v, m, filled, ok)
			}
		}
	}
	for _, v := range badVoices(t) {
		for _, m := range append(validMeters(), fewBadMeters()...) {
			if filled, ok := impl.FillBar(v, m); ok || len(filled) != 0 {
				t.Fatal(v, m, filled, ok)
			}
		}
	}
}

func TestP123BarsSplitIntoBeats(t *testing.T) {
	done, failed := 0, 0
	for _, v := range barVoices(t) {
		for _, m := range validMeters() {
			atBeats, okBeats := impl.SplitBars(v, beatOf(m))
			atBars, okBars := impl.SplitBars(v, m)
			twice, okTwice := impl.SplitBars(atBars, beatOf(m))
			if okBars && (okTwice != okBeats || !slices.Equal(twice, atBeats)) || !okBars && okBeats {
				t.Fatal(v, m, atBars, twice, atBeats)
			}
			if okBars && okBeats {
				done++
			} else {
				failed++
			}
		}
	}
	if done < 1000 || failed < 1000 {
		t.Fatal(done, failed)
	}
}

func TestP123BeatsByText(t *testing.T) {
	cases := []struct {
		beats, unit           int
		voice, atBars, atBeat string
	}{
		{4, 4, "", "", ""},
		{4, 4, "C4/144 D4/100", "C4/144 D4/48~ D4/52", "C4/48~ C4/48~ C4/48 D4/48~ D4/48~ D4/4"},
		{3, 4, "r/150 C4/42", "r/144 r/6 C4/42", "r/48 r/48 r/48 r/6 C4/42"},
		{2, 2, "C4/200~ C4/100 r/1", "C4/192~ C4/8~ C4/100 r/1", "C4/96~ C4/96~ C4/8~ C4/88~ C4/12 r/1"},
		{6, 8, "C4/12 D4/24 r/24", "C4/12 D4/24 r/24", "C4/12 D4/12~ D4/12 r/12 r/12"},
		{12, 16, "C4/36", "C4/36", "C4/12~ C4/12~ C4/12"},
		{1, 8, "C4/36 r/12", "C4/24~ C4/12 r/12", "C4/24~ C4/12 r/12"},
	}
	for _, c := range cases {
		m := impl.Meter{Beats: c.beats, Unit: c.unit}
		atBars, ok := impl.SplitBars(notesOf(t, c.voice), m)
		if !ok || !slices.Equal(atBars, notesOf(t, c.atBars)) {
			t.Fatal(c, atBars, ok)
		}
		for _, v := range [][]impl.Note{notesOf(t, c.voice), atBars} {
			if atBeats, ok := impl.SplitBars(v, beatOf(m)); !ok || !slices.Equal(atBeats, notesOf(t, c.atBeat)) {
				t.Fatal(c, atBeats, ok)
			}
		}
	}
}

func TestP123BeatsMayBeTooMany(t *testing.T) {
	m := impl.Meter{Beats: 4, Unit: 16}
	for count, want := range map[int]int{1: 4, 14: 56, 15: 60, 16: 0, 60: 0} {
		v := slices.Repeat(tiedRun(1, 48), count)
		atBars, ok := impl.SplitBars(v, m)
		if !ok || !slices.Equal(atBars, v) {
			t.Fatal(count, atBars, ok)
		}
		if atBeats, ok := impl.SplitBars(atBars, beatOf(m)); ok != (want > 0) || len(atBeats) != want {
			t.Fatal(count, atBeats, ok)
		}
	}
}

func TestP3AndP43BarsAreNewMemory(t *testing.T) {
	meters := []impl.Meter{{Beats: 4, Unit: 4}, {Beats: 1, Unit: 16}, {Beats: 12, Unit: 2}, {Beats: 4, Unit: 3}}
	for _, v := range slices.Concat(voicesNearBars(), fullVoices(t), lentVoices(t)) {
		for _, m := range meters {
			checkNew(t, v, func(v []impl.Note) []impl.Note {
				split, _ := impl.SplitBars(v, m)
				return split
			})
			checkNew(t, v, func(v []impl.Note) []impl.Note {
				filled, _ := impl.FillBar(v, m)
				return filled
			})
		}
	}
}

func TestP42VoicesAreOnlyRead(t *testing.T) {
	for _, v := range slices.Concat(voicesNearBars(), fullVoices(t), lentVoices(t)) {
		l, valid, ticks := lend(v), voiceIsValid(v), 0
		if valid {
			ticks = ticksOf(v)
		}
		for _, m := range []impl.Meter{{Beats: 4, Unit: 4}, {Beats: 1, Unit: 16}, {Beats: 4, Unit: 3}} {
			want := -1
			if valid && meterIsValid(m) {
				want, _ = barsOf(ticks, m)
			}
			if bars := impl.BarCount(l.voice, m); bars != want {
				t.Fatal(v, m, bars, want)
			}
		}
		l.check(t)
	}
}
