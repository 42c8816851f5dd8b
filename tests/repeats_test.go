package tests

import (
	"math"
	"math/rand/v2"
	"slices"
	"strconv"
	"strings"
	"testing"

	"loop.example/musicengine/impl"
)

// paperBar is a bar on paper by its place, not by its number: its section, its ending, -1 for the bars before them, and which bar of these it is.
type paperBar struct {
	section, ending, bar int
}

// paperOf lists the bars of valid sections as they are written.
func paperOf(list []impl.Section) []paperBar {
	var paper []paperBar
	for k, s := range list {
		for bar := 0; bar < s.Bars; bar++ {
			paper = append(paper, paperBar{k, -1, bar})
		}
		for e, bars := range s.Ending {
			for bar := 0; bar < bars; bar++ {
				paper = append(paper, paperBar{k, e, bar})
			}
		}
	}
	return paper
}

// playedOf lists the bars of valid sections as they are played.
func playedOf(list []impl.Section) []paperBar {
	var played []paperBar
	for k, s := range list {
		for time := 0; time < s.Times; time++ {
			for bar := 0; bar < s.Bars; bar++ {
				played = append(played, paperBar{k, -1, bar})
			}
			if len(s.Ending) == 0 {
				continue
			}
			for bar := 0; bar < s.Ending[time]; bar++ {
				played = append(played, paperBar{k, time, bar})
			}
		}
	}
	return played
}

// orderOf finds each bar that is played on paper.
func orderOf(list []impl.Section) []int {
	paper := paperOf(list)
	var order []int
	for _, p := range playedOf(list) {
		order = append(order, slices.Index(paper, p))
	}
	return order
}

func barsAreValid(bars int) bool {
	return slices.Contains([]int{0, 1, 2, 3, 4, 5, 6, 7, 8, 9, 10, 11, 12}, bars)
}

func sectionIsValid(s impl.Section) bool {
	if !barsAreValid(s.Bars) || !slices.Contains([]int{1, 2, 3, 4}, s.Times) {
		return false
	}
	return len(s.Ending) == 0 || len(s.Ending) == s.Times && !slices.ContainsFunc(s.Ending, func(bars int) bool { return !barsAreValid(bars) })
}

func sectionsAreValid(list []impl.Section) bool {
	return len(list) <= 8 && !slices.ContainsFunc(list, func(s impl.Section) bool { return !sectionIsValid(s) })
}

// endingsOf lists all endings of exactly so many numbers.
func endingsOf(numbers []int, count int) [][]int {
	if count == 0 {
		return [][]int{{}}
	}
	var list [][]int
	for _, shorter := range endingsOf(numbers, count-1) {
		for _, n := range numbers {
			list = append(list, append(slices.Clone(shorter), n))
		}
	}
	return list
}

// goodSections are valid sections with few, many and no bars, played once to four times, with all kinds of endings and with none.
func goodSections() []impl.Section {
	var list []impl.Section
	for _, bars := range []int{0, 1, 2, 11, 12} {
		for times := 1; times <= 4; times++ {
			list = append(list, impl.Section{Bars: bars, Times: times}, impl.Section{Bars: bars, Times: times, Ending: []int{}})
			for _, ending := range endingsOf([]int{0, 1, 12}, times) {
				list = append(list, impl.Section{Bars: bars, Times: times, Ending: ending})
			}
		}
	}
	return list
}

// fewSections are valid sections, one of each kind.
func fewSections() []impl.Section {
	return []impl.Section{
		{Times: 1},
		{Times: 4},
		{Bars: 1, Times: 1},
		{Bars: 3, Times: 1},
		{Bars: 12, Times: 4},
		{Times: 1, Ending: []int{0}},
		{Times: 4, Ending: []int{0, 0, 0, 0}},
		{Bars: 2, Times: 2, Ending: []int{1, 1}},
		{Bars: 2, Times: 2, Ending: []int{0, 0}},
		{Bars: 1, Times: 3, Ending: []int{0, 2, 0}},
		{Times: 3, Ending: []int{2, 0, 1}},
		{Bars: 2, Times: 1, Ending: []int{3}},
		{Bars: 12, Times: 4, Ending: []int{12, 12, 12, 12}},
	}
}

// badSections are invalid sections: a number of bars or of times is outside of its limits, or there is not an ending for every time.
func badSections() []impl.Section {
	list := []impl.Section{{}, {Bars: 1}, {Bars: 1, Ending: []int{}}, {Bars: 1, Ending: []int{1}}, {Bars: -1, Times: -1, Ending: []int{-1}}}
	far := append([]int{-2, -1, 13, 14, 1<<32 + 1, 1<<32 + 12, -1<<32 + 1, math.MinInt + 2}, farNumbers...)
	for _, bars := range far {
		for times := 1; times <= 4; times++ {
			list = append(list, impl.Section{Bars: bars, Times: times}, impl.Section{Bars: bars, Times: times, Ending: make([]int, times)})
			for at := range times {
				ending := slices.Repeat([]int{1}, times)
				ending[at] = bars
				list = append(list, impl.Section{Bars: 1, Times: times, Ending: ending})
			}
		}
	}
	for _, times := range append([]int{0, 5, 6}, far...) {
		for count := 0; count <= 6; count++ {
			list = append(list, impl.Section{Bars: 1, Times: times, Ending: make([]int, count)}, impl.Section{Bars: 1, Times: times, Ending: slices.Repeat([]int{1}, count)})
		}
	}
	for times := 1; times <= 4; times++ {
		for _, count := range []int{1, 2, 3, 4, 5, 6, 100} {
			if count != times {
				list = append(list, impl.Section{Bars: 1, Times: times, Ending: make([]int, count)}, impl.Section{Bars: 1, Times: times, Ending: slices.Repeat([]int{2}, count)})
			}
		}
	}
	// Together these wrap around to as many bars as a section may have.
	return append(list,
		impl.Section{Bars: 2, Times: 2, Ending: []int{math.MaxInt, math.MinInt}},
		impl.Section{Bars: math.MaxInt, Times: 1, Ending: []int{math.MinInt}},
		impl.Section{Bars: 2, Times: 2, Ending: []int{math.MaxInt, math.MaxInt}},
		impl.Section{Bars: 2, Times: 2, Ending: []int{1 << 62, 1 << 62}},
		impl.Section{Bars: 0, Times: 4, Ending: []int{1 << 62, 1 << 62, 1 << 62, 1 << 62}},
	)
}

// goodLists are valid sections, from none to eight of them, always the same ones.
func goodLists() [][]impl.Section {
	list := [][]impl.Section{nil, {}}
	good, few := goodSections(), fewSections()
	for _, s := range slices.Concat(good, few) {
		list = append(list, []impl.Section{s})
	}
	for _, a := range few {
		for _, b := range few {
			list = append(list, []impl.Section{a, b}, []impl.Section{a, b, a})
		}
		for count := 4; count <= 8; count++ {
			list = append(list, slices.Repeat([]impl.Section{a}, count))
		}
	}
	source := rand.New(rand.NewPCG(7, 124))
	for range 300 {
		var sections []impl.Section
		for range source.IntN(9) {
			s := impl.Section{Bars: source.IntN(13), Times: 1 + source.IntN(4)}
			if source.IntN(3) > 0 {
				for range s.Times {
					s.Ending = append(s.Ending, source.IntN(13)*source.IntN(2))
				}
			}
			sections = append(sections, s)
		}
		list = append(list, sections)
	}
	return list
}

// badLists are lists of sections one of which is invalid, and lists that are too long.
func badLists() [][]impl.Section {
	var list [][]impl.Section
	one := impl.Section{Bars: 2, Times: 2, Ending: []int{1, 1}}
	for _, bad := range badSections() {
		list = append(list, []impl.Section{bad}, []impl.Section{bad, one}, []impl.Section{one, bad}, []impl.Section{one, bad, one}, slices.Insert(slices.Repeat([]impl.Section{one}, 7), 7, bad))
	}
	for _, s := range append(fewSections(), impl.Section{}) {
		for _, count := range []int{9, 10, 16, 17, 256, 264} {
			list = append(list, slices.Repeat([]impl.Section{s}, count))
		}
	}
	return list
}

// barTexts are as many texts of bars, all of them different.
func barTexts(count int) []string {
	texts := make([]string, count)
	for at := range texts {
		texts[at] = "bar " + strconv.Itoa(at)
	}
	return texts
}

// checkValid fails where sections are wrongly taken for valid, before they are played: some have so many bars that this would not end.
func checkValid(t *testing.T, list []impl.Section) {
	t.Helper()
	if impl.SectionsValid(list) != sectionsAreValid(list) {
		t.Fatal(list)
	}
}

// checkRefused fails if sections that are not valid have bars, on paper or played.
func checkRefused(t *testing.T, list []impl.Section) {
	t.Helper()
	checkValid(t, list)
	if written := impl.WrittenBars(list); written != -1 {
		t.Fatal(list, written)
	}
	if order := impl.PlayedOrder(list); len(order) != 0 {
		t.Fatal(list, order)
	}
	for _, count := range countsNear(list) {
		if unfolded, ok := impl.UnfoldBars(list, barTexts(count)); ok || len(unfolded) != 0 {
			t.Fatal(list, count, unfolded, ok)
		}
	}
}

// countsNear are numbers of texts for sections that are not valid, among them those that their bars together ask for, if there can be so many.
func countsNear(list []impl.Section) []int {
	bars, all := 0, 0
	for _, s := range list {
		bars += s.Bars
		all += s.Bars + sumOf(s.Ending)
	}
	counts := []int{0, 1, 4}
	for _, count := range []int{bars, all} {
		if count >= 0 && count <= 20000 {
			counts = append(counts, count)
		}
	}
	return counts
}

func TestP44SectionsHaveEndingsForEveryTime(t *testing.T) {
	more := 0
	for _, s := range append(goodSections(), fewSections()...) {
		if !impl.SectionValid(s) {
			t.Fatal(s)
		}
		if len(s.Ending) == 0 {
			continue
		}
		for _, bars := range []int{0, 1, 12} {
			longer := s
			longer.Ending = append(slices.Clone(s.Ending), bars)
			if impl.SectionValid(longer) {
				t.Fatal(longer)
			}
			more++
		}
		shorter, without := s, s
		shorter.Ending = s.Ending[:len(s.Ending)-1]
		without.Ending = nil
		if impl.SectionValid(shorter) != (s.Times == 1) || !impl.SectionValid(without) {
			t.Fatal(s)
		}
	}
	if more < 1000 {
		t.Fatal(more)
	}
}

func TestP44OneMoreTimeNeedsOneMoreEnding(t *testing.T) {
	for _, s := range goodSections() {
		longer := s
		longer.Times++
		if impl.SectionValid(longer) != (s.Times < 4 && len(s.Ending) == 0) {
			t.Fatal(longer)
		}
		longer.Ending = append(slices.Clone(s.Ending), 1)
		if impl.SectionValid(longer) != (s.Times < 4 && len(s.Ending) > 0) {
			t.Fatal(longer)
		}
	}
}

func TestP44SectionsByNumber(t *testing.T) {
	cases := []struct {
		bars, times int
		ending      []int
		valid       bool
	}{
		{0, 1, nil, true},
		{0, 1, []int{}, true},
		{12, 4, nil, true},
		{12, 1, nil, true},
		{0, 4, nil, true},
		{0, 1, []int{0}, true},
		{1, 1, []int{12}, true},
		{1, 2, []int{0, 0}, true},
		{1, 3, []int{0, 2, 0}, true},
		{12, 4, []int{12, 12, 12, 12}, true},
		{13, 1, nil, false},
		{-1, 1, nil, false},
		{1, 0, nil, false},
		{1, -1, nil, false},
		{1, 5, nil, false},
		{1, 5, []int{1, 1, 1, 1, 1}, false},
		{1, 0, []int{}, false},
		{1, 0, []int{1}, false},
		{1, 1, []int{1, 1}, false},
		{1, 2, []int{1}, false},
		{1, 2, []int{1, 1, 1}, false},
		{1, 4, []int{1, 1, 1}, false},
		{1, 2, []int{13, 1}, false},
		{1, 2, []int{1, 13}, false},
		{1, 2, []int{-1, 1}, false},
		{1, 2, []int{1, -1}, false},
		{1, 3, []int{1, -1, 1}, false},
		{1, 1, []int{math.MaxInt}, false},
		{1, 1, []int{math.MinInt}, false},
		{math.MaxInt, 1, nil, false},
		{math.MinInt, 1, nil, false},
		{1, math.MaxInt, nil, false},
		{1, math.MinInt, nil, false},
	}
	for _, c := range cases {
		if s := (impl.Section{Bars: c.bars, Times: c.times, Ending: c.ending}); impl.SectionValid(s) != c.valid {
			t.Fatal(s, c.valid)
		}
	}
}

func TestP44SectionsNearTheLimits(t *testing.T) {
	for count := range 6 {
		for _, ending := range endingsOf([]int{-1, 0, 12, 13}, count) {
			for bars := -2; bars <= 14; bars++ {
				for times := -1; times <= 6; times++ {
					if s := (impl.Section{Bars: bars, Times: times, Ending: ending}); impl.SectionValid(s) != sectionIsValid(s) {
						t.Fatal(s)
					}
				}
			}
		}
	}
}

func TestP44OtherSectionsAreInvalid(t *testing.T) {
	for _, s := range badSections() {
		if sectionIsValid(s) || impl.SectionValid(s) {
			t.Fatal(s)
		}
	}
}

func TestP45PartsOfValidSectionsAreValid(t *testing.T) {
	for _, list := range goodLists() {
		if !sectionsAreValid(list) {
			t.Fatal(list)
		}
		for end := range len(list) + 1 {
			for begin := range end + 1 {
				if !impl.SectionsValid(list[begin:end]) {
					t.Fatal(list, begin, end)
				}
			}
		}
	}
}

func TestP45OneInvalidSectionIsEnough(t *testing.T) {
	bad := []impl.Section{
		{Bars: 1, Times: 0}, // never played
		{Bars: 0, Times: 0},
		{Bars: 2, Times: 0, Ending: []int{}},
		{Bars: 2, Times: 0, Ending: []int{1}},
		{Bars: 13, Times: 1},
		{Bars: -1, Times: 1},
		{Bars: 1, Times: 5},
		{Bars: 1, Times: 2, Ending: []int{1}},
		{Bars: 1, Times: 1, Ending: []int{13}},
	}
	for _, list := range goodLists() {
		for at := range len(list) + 1 {
			for _, s := range bad {
				if worse := slices.Insert(slices.Clone(list), at, s); impl.SectionsValid(worse) {
					t.Fatal(worse)
				}
			}
		}
	}
}

func TestP45ASectionIsAListOfItsOwn(t *testing.T) {
	for _, s := range slices.Concat(goodSections(), fewSections(), badSections()) {
		if impl.SectionsValid([]impl.Section{s}) != sectionIsValid(s) {
			t.Fatal(s)
		}
	}
}

func TestP45SectionsHaveALimit(t *testing.T) {
	if !impl.SectionsValid(nil) || !impl.SectionsValid([]impl.Section{}) {
		t.Fatal("no sections")
	}
	for _, s := range fewSections() {
		for _, count := range []int{0, 1, 2, 7, 8, 9, 10, 16, 256} {
			if impl.SectionsValid(slices.Repeat([]impl.Section{s}, count)) != (count <= 8) {
				t.Fatal(s, count)
			}
		}
	}
	if impl.SectionsValid(make([]impl.Section, 1)) || impl.SectionsValid(make([]impl.Section, 8)) {
		t.Fatal("never played")
	}
}

func TestP45OtherSectionsAreInvalid(t *testing.T) {
	for _, list := range badLists() {
		if sectionsAreValid(list) || impl.SectionsValid(list) {
			t.Fatal(list)
		}
	}
}

func TestP46WrittenBarsArePlayed(t *testing.T) {
	withoutBars := 0
	for _, list := range goodLists() {
		written, order := impl.WrittenBars(list), impl.PlayedOrder(list)
		if written != len(paperOf(list)) {
			t.Fatal(list, written)
		}
		times := map[int]int{}
		for _, bar := range order {
			times[bar]++
			if bar < 0 || bar >= written {
				t.Fatal(list, written, order)
			}
		}
		if len(times) != written || len(order) < written {
			t.Fatal(list, written, order)
		}
		if written == 0 {
			withoutBars++
		}
	}
	if withoutBars < 20 {
		t.Fatal(withoutBars)
	}
}

func TestP46WithoutRepeatsAsManyArePlayedAsAreWritten(t *testing.T) {
	for _, list := range goodLists() {
		once := slices.Clone(list)
		for at := range once {
			once[at].Times = 1
			once[at].Ending = once[at].Ending[:min(1, len(once[at].Ending))]
		}
		order := impl.PlayedOrder(once)
		if len(order) != impl.WrittenBars(once) {
			t.Fatal(once, order)
		}
		for at, bar := range order {
			if bar != at {
				t.Fatal(once, order)
			}
		}
	}
}

func TestP46BarsByNumber(t *testing.T) {
	cases := []struct {
		list            []impl.Section
		written, played int
	}{
		{nil, 0, 0},
		{[]impl.Section{}, 0, 0},
		{[]impl.Section{{Times: 1}}, 0, 0},
		{[]impl.Section{{Times: 4, Ending: []int{0, 0, 0, 0}}}, 0, 0},
		{[]impl.Section{{Times: 1}, {Times: 4}, {Times: 2, Ending: []int{0, 0}}}, 0, 0},
		{[]impl.Section{{Bars: 1, Times: 1}}, 1, 1},
		{[]impl.Section{{Bars: 12, Times: 1}}, 12, 12},
		{[]impl.Section{{Bars: 12, Times: 4}}, 12, 48},
		{[]impl.Section{{Bars: 3, Times: 1, Ending: []int{2}}}, 5, 5},
		{[]impl.Section{{Times: 2, Ending: []int{3, 4}}}, 7, 7}, // only endings
		{[]impl.Section{{Bars: 2, Times: 2, Ending: []int{1, 1}}, {Bars: 1, Times: 1}}, 5, 7},
		{[]impl.Section{{Bars: 1, Times: 3, Ending: []int{0, 2, 0}}}, 3, 5},
		{[]impl.Section{{Bars: 12, Times: 4, Ending: []int{12, 12, 12, 12}}}, 60, 96},
		{slices.Repeat([]impl.Section{{Bars: 12, Times: 4, Ending: []int{12, 12, 12, 12}}}, 8), 480, 768},
		{slices.Repeat([]impl.Section{{Times: 4}}, 8), 0, 0},
	}
	for _, c := range cases {
		if written, order := impl.WrittenBars(c.list), impl.PlayedOrder(c.list); written != c.written || len(order) != c.played {
			t.Fatal(c, written, order)
		}
	}
}

func TestP46OtherSectionsHaveNoBars(t *testing.T) {
	for _, list := range badLists() {
		if written := impl.WrittenBars(list); written != -1 {
			t.Fatal(list, written)
		}
	}
}

func TestP47BarsArePlayedAsOftenAsTheyShould(t *testing.T) {
	for _, list := range goodLists() {
		times := map[int]int{}
		for _, bar := range impl.PlayedOrder(list) {
			times[bar]++
		}
		for number, bar := range paperOf(list) {
			want := 1
			if bar.ending < 0 {
				want = list[bar.section].Times
			}
			if times[number] != want {
				t.Fatal(list, number, times[number], want)
			}
		}
	}
}

func TestP47BarsArePlayedInOrder(t *testing.T) {
	for _, list := range goodLists() {
		if order := impl.PlayedOrder(list); !slices.Equal(order, orderOf(list)) {
			t.Fatal(list, order)
		}
	}
}

func TestP47EndingsWithoutBarsCountAsTimes(t *testing.T) {
	for bars := range 13 {
		for times := 1; times <= 4; times++ {
			plain := []impl.Section{{Bars: bars, Times: times}, {Bars: 1, Times: 1}}
			empty := []impl.Section{{Bars: bars, Times: times, Ending: make([]int, times)}, {Bars: 1, Times: 1}}
			if order := impl.PlayedOrder(plain); len(order) != bars*times+1 || !slices.Equal(order, impl.PlayedOrder(empty)) {
				t.Fatal(plain, order)
			}
		}
	}
}

func TestP47OrdersByNumber(t *testing.T) {
	cases := []struct {
		list  []impl.Section
		order []int
	}{
		{nil, nil},
		{[]impl.Section{{Times: 4}}, nil},
		{[]impl.Section{{Bars: 3, Times: 1}}, []int{0, 1, 2}},
		{[]impl.Section{{Bars: 2, Times: 3}}, []int{0, 1, 0, 1, 0, 1}},
		{[]impl.Section{{Bars: 1, Times: 4}}, []int{0, 0, 0, 0}},
		{[]impl.Section{{Bars: 2, Times: 2, Ending: []int{1, 1}}, {Bars: 1, Times: 1}}, []int{0, 1, 2, 0, 1, 3, 4}},
		{[]impl.Section{{Bars: 1, Times: 3, Ending: []int{0, 2, 0}}}, []int{0, 0, 1, 2, 0}},
		{[]impl.Section{{Bars: 1, Times: 3, Ending: []int{2, 0, 1}}}, []int{0, 1, 2, 0, 0, 3}},
		{[]impl.Section{{Bars: 1, Times: 4, Ending: []int{0, 0, 0, 1}}}, []int{0, 0, 0, 0, 1}},
		{[]impl.Section{{Bars: 1, Times: 4, Ending: []int{1, 2, 3, 1}}}, []int{0, 1, 0, 2, 3, 0, 4, 5, 6, 0, 7}},
		{[]impl.Section{{Times: 3, Ending: []int{2, 0, 1}}}, []int{0, 1, 2}}, // no bars before the endings
		{[]impl.Section{{Bars: 2, Times: 1, Ending: []int{2}}}, []int{0, 1, 2, 3}},
		{[]impl.Section{{Bars: 1, Times: 2}, {Bars: 2, Times: 2}}, []int{0, 0, 1, 2, 1, 2}},
		{[]impl.Section{{Bars: 1, Times: 1}, {Times: 4}, {Bars: 1, Times: 2}}, []int{0, 1, 1}},
		{[]impl.Section{{Times: 2, Ending: []int{0, 1}}, {Bars: 1, Times: 2, Ending: []int{1, 0}}, {Bars: 1, Times: 1}}, []int{0, 1, 2, 1, 3}},
		{[]impl.Section{{Bars: 2, Times: 2, Ending: []int{0, 0}}, {Bars: 1, Times: 1}}, []int{0, 1, 0, 1, 2}},
		{slices.Repeat([]impl.Section{{Bars: 1, Times: 1}}, 8), []int{0, 1, 2, 3, 4, 5, 6, 7}},
		{slices.Repeat([]impl.Section{{Bars: 1, Times: 2}}, 8), []int{0, 0, 1, 1, 2, 2, 3, 3, 4, 4, 5, 5, 6, 6, 7, 7}},
	}
	for _, c := range cases {
		if order := impl.PlayedOrder(c.list); !slices.Equal(order, c.order) {
			t.Fatal(c, order)
		}
	}
}

func TestP47OtherSectionsAreNotPlayed(t *testing.T) {
	for _, list := range badLists() {
		checkValid(t, list)
		if order := impl.PlayedOrder(list); len(order) != 0 {
			t.Fatal(list, order)
		}
	}
}

func TestP48UnfoldedBarsAreBars(t *testing.T) {
	for _, list := range goodLists() {
		texts, order := barTexts(len(paperOf(list))), orderOf(list)
		unfolded, ok := impl.UnfoldBars(list, texts)
		if !ok || len(unfolded) != len(order) || len(unfolded) != len(impl.PlayedOrder(list)) {
			t.Fatal(list, unfolded, ok)
		}
		for at, number := range order {
			if unfolded[at] != texts[number] {
				t.Fatal(list, at, unfolded)
			}
		}
	}
}

func TestP48TextsAreOfAnyKind(t *testing.T) {
	kinds := []string{"", "a", "a", "ab", "A", " ", "\x00", "\xff\xfe", "C4/48 r/48", "\n|", "\u00e9", "e\u0301", "a\x00", strings.Repeat("|", 5000)}
	source := rand.New(rand.NewPCG(7, 48))
	for _, list := range goodLists() {
		count := len(paperOf(list))
		mixed := make([]string, count)
		for at := range mixed {
			mixed[at] = kinds[source.IntN(len(kinds))]
		}
		for _, texts := range [][]string{mixed, make([]string, count), slices.Repeat([]string{"|:"}, count), slices.Repeat([]string{"\xc3\x28\x00"}, count)} {
			var want []string
			for _, number := range orderOf(list) {
				want = append(want, texts[number])
			}
			if unfolded, ok := impl.UnfoldBars(list, texts); !ok || !slices.Equal(unfolded, want) {
				t.Fatal(list, texts, unfolded, ok)
			}
		}
	}
}

func TestP48BarsByText(t *testing.T) {
	cases := []struct {
		list           []impl.Section
		bars, unfolded string
	}{
		{nil, "", ""},
		{[]impl.Section{{Times: 4}}, "", ""},
		{[]impl.Section{{Times: 2, Ending: []int{0, 0}}}, "", ""},
		{[]impl.Section{{Bars: 3, Times: 1}}, "abc", "abc"},
		{[]impl.Section{{Bars: 3, Times: 2}}, "abc", "abcabc"},
		{[]impl.Section{{Bars: 2, Times: 2, Ending: []int{1, 1}}, {Bars: 1, Times: 1}}, "abcde", "abcabde"},
		{[]impl.Section{{Bars: 1, Times: 3, Ending: []int{0, 2, 0}}}, "abc", "aabca"},
		{[]impl.Section{{Bars: 1, Times: 4, Ending: []int{1, 0, 1, 0}}, {Bars: 1, Times: 2}}, "abcd", "abaacadd"},
		{[]impl.Section{{Times: 3, Ending: []int{1, 0, 2}}}, "abc", "abc"},
		{[]impl.Section{{Bars: 2, Times: 1, Ending: []int{2}}, {Bars: 1, Times: 3}}, "abcde", "abcdeee"},
		{[]impl.Section{{Bars: 2, Times: 2, Ending: []int{1, 1}}}, "aaba", "aabaaa"}, // texts that are alike
	}
	for _, c := range cases {
		unfolded, ok := impl.UnfoldBars(c.list, strings.Split(c.bars, ""))
		if !ok || !slices.Equal(unfolded, strings.Split(c.unfolded, "")) {
			t.Fatal(c, unfolded, ok)
		}
	}
	for _, none := range [][]string{nil, {}} {
		if unfolded, ok := impl.UnfoldBars([]impl.Section{{Times: 1}}, none); !ok || len(unfolded) != 0 {
			t.Fatal(unfolded, ok)
		}
	}
}

func TestP48OtherNumbersOfTextsAreNotUnfolded(t *testing.T) {
	for _, list := range goodLists() {
		written, played := len(paperOf(list)), len(playedOf(list))
		for _, count := range []int{0, 1, written - 1, written + 1, written + 2, 2 * written, played, played + 1, 768, 2000} {
			if count < 0 || count == written {
				continue
			}
			if unfolded, ok := impl.UnfoldBars(list, barTexts(count)); ok || len(unfolded) != 0 {
				t.Fatal(list, count, unfolded, ok)
			}
		}
	}
}

func TestP48OtherSectionsAreNotUnfolded(t *testing.T) {
	for _, list := range badLists() {
		checkRefused(t, list)
	}
}

func TestP124SectionsFollowEachOther(t *testing.T) {
	lists := goodLists()
	source := rand.New(rand.NewPCG(124, 7))
	together := 0
	for _, a := range lists {
		for range 40 {
			b := lists[source.IntN(len(lists))]
			both := slices.Concat(a, b)
			if len(both) > 8 {
				checkRefused(t, both)
				continue
			}
			together++
			checkFollowing(t, a, b)
		}
	}
	if together < 1000 {
		t.Fatal(together)
	}
}

// checkFollowing fails if two lists of sections together have not the bars of both, on paper and played.
func checkFollowing(t *testing.T, a []impl.Section, b []impl.Section) {
	t.Helper()
	both := slices.Concat(a, b)
	first, second := impl.WrittenBars(a), impl.WrittenBars(b)
	if written := impl.WrittenBars(both); !impl.SectionsValid(both) || written != first+second {
		t.Fatal(a, b, written)
	}
	want := slices.Clone(impl.PlayedOrder(a))
	for _, bar := range impl.PlayedOrder(b) {
		want = append(want, first+bar)
	}
	if order := impl.PlayedOrder(both); !slices.Equal(order, want) {
		t.Fatal(a, b, order, want)
	}
	texts := barTexts(first + second)
	before, okBefore := impl.UnfoldBars(a, texts[:first])
	behind, okBehind := impl.UnfoldBars(b, texts[first:])
	all, ok := impl.UnfoldBars(both, texts)
	if !okBefore || !okBehind || !ok || !slices.Equal(all, slices.Concat(before, behind)) {
		t.Fatal(a, b, before, behind, all)
	}
}

func TestP124EveryDivisionOfSections(t *testing.T) {
	for _, list := range goodLists() {
		for at := range len(list) + 1 {
			checkFollowing(t, list[:at], list[at:])
		}
	}
}

func TestP124NumbersGoOn(t *testing.T) {
	twice := impl.Section{Bars: 1, Times: 2, Ending: []int{0, 1}}
	cases := []struct {
		a, b  []impl.Section
		order []int
	}{
		{nil, nil, nil},
		{nil, []impl.Section{twice}, []int{0, 0, 1}},
		{[]impl.Section{twice}, nil, []int{0, 0, 1}},
		{[]impl.Section{twice}, []impl.Section{twice}, []int{0, 0, 1, 2, 2, 3}},
		{[]impl.Section{{Times: 4}}, []impl.Section{twice}, []int{0, 0, 1}},
		{[]impl.Section{{Bars: 12, Times: 1}}, []impl.Section{{Bars: 2, Times: 2}}, []int{0, 1, 2, 3, 4, 5, 6, 7, 8, 9, 10, 11, 12, 13, 12, 13}},
		{[]impl.Section{twice, twice}, []impl.Section{{Bars: 1, Times: 1}}, []int{0, 0, 1, 2, 2, 3, 4}},
	}
	for _, c := range cases {
		checkFollowing(t, c.a, c.b)
		if order := impl.PlayedOrder(slices.Concat(c.a, c.b)); !slices.Equal(order, c.order) {
			t.Fatal(c, order)
		}
	}
}

func TestP124TogetherTheyMayBeTooMany(t *testing.T) {
	for first := range 9 {
		for second := range 9 {
			a, b := slices.Repeat([]impl.Section{{Bars: 1, Times: 2}}, first), slices.Repeat([]impl.Section{{Bars: 2, Times: 1}}, second)
			if first+second <= 8 {
				checkFollowing(t, a, b)
			} else {
				checkRefused(t, slices.Concat(a, b))
			}
		}
	}
}

// lentSections are sections that stand in a longer array, and so do their endings and the texts, with others before and behind them to which nobody may write.
type lentSections struct {
	list, whole            []impl.Section
	before                 []impl.Section
	endings, endingsBefore [][]int
	texts, allTexts        []string
	textsBefore            []string
}

func lendSections(list []impl.Section, texts []string) lentSections {
	around := slices.Repeat([]impl.Section{{Bars: 1, Times: 1}}, 10)
	whole := slices.Concat(around[:2], list, around)
	l := lentSections{list: whole[2 : 2+len(list)], whole: whole}
	for at, s := range l.list {
		ending := slices.Concat([]int{3, 3}, s.Ending, slices.Repeat([]int{3}, 10))
		l.endings, l.endingsBefore = append(l.endings, ending), append(l.endingsBefore, slices.Clone(ending))
		l.list[at].Ending = ending[2 : 2+len(s.Ending)]
	}
	l.before = slices.Clone(whole)
	l.allTexts = slices.Concat([]string{"x", "y"}, texts, slices.Repeat([]string{"z"}, 10))
	l.texts, l.textsBefore = l.allTexts[2:2+len(texts)], slices.Clone(l.allTexts)
	return l
}

func (l lentSections) check(t *testing.T) {
	t.Helper()
	same := func(a impl.Section, b impl.Section) bool {
		return a.Bars == b.Bars && a.Times == b.Times && slices.Equal(a.Ending, b.Ending)
	}
	if !slices.EqualFunc(l.whole, l.before, same) || !slices.EqualFunc(l.endings, l.endingsBefore, slices.Equal) || !slices.Equal(l.allTexts, l.textsBefore) {
		t.Fatal(l)
	}
}

// lentLists are the good lists and the bad ones.
func lentLists() [][]impl.Section {
	return slices.Concat(goodLists(), badLists())
}

func TestP44ToP46SectionsAreOnlyRead(t *testing.T) {
	for _, list := range lentLists() {
		l, valid, want := lendSections(list, nil), sectionsAreValid(list), -1
		if valid {
			want = len(paperOf(list))
		}
		for _, s := range l.list {
			if impl.SectionValid(s) != sectionIsValid(s) {
				t.Fatal(s)
			}
		}
		if impl.SectionsValid(l.list) != valid || impl.WrittenBars(l.list) != want {
			t.Fatal(list, valid, want)
		}
		l.check(t)
	}
}

func TestP47OrdersAreNewMemory(t *testing.T) {
	for _, list := range lentLists() {
		checkValid(t, list)
		l := lendSections(list, nil)
		first, second := impl.PlayedOrder(l.list), impl.PlayedOrder(l.list)
		l.check(t)
		want := slices.Clone(second)
		first = first[:cap(first)]
		for at := range first {
			first[at] = -7
		}
		l.check(t)
		if third := impl.PlayedOrder(l.list); !slices.Equal(second, want) || !slices.Equal(third, want) {
			t.Fatal(list, second, third, want)
		}
	}
}

func TestP48UnfoldedBarsAreNewMemory(t *testing.T) {
	for _, list := range lentLists() {
		checkValid(t, list)
		count := 1
		if sectionsAreValid(list) {
			count = len(paperOf(list))
		}
		l := lendSections(list, barTexts(count))
		first, ok := impl.UnfoldBars(l.list, l.texts)
		second, _ := impl.UnfoldBars(l.list, l.texts)
		l.check(t)
		want := slices.Clone(second)
		first = first[:cap(first)]
		for at := range first {
			first[at] = "written"
		}
		l.check(t)
		if third, again := impl.UnfoldBars(l.list, l.texts); again != ok || !slices.Equal(second, want) || !slices.Equal(third, want) {
			t.Fatal(list, second, third, want)
		}
	}
}
