package tests

import (
	"math"
	"slices"
	"testing"

	"loop.example/musicengine/impl"
)

// valueTicks holds the ticks of all valid values, written out so that the tests do not depend on the program's tables.
var valueTicks = map[impl.Value]int{
	{Base: 1, Dots: 0, Tuplet: 1}: 192, {Base: 1, Dots: 1, Tuplet: 1}: 288, {Base: 1, Dots: 2, Tuplet: 1}: 336,
	{Base: 2, Dots: 0, Tuplet: 1}: 96, {Base: 2, Dots: 1, Tuplet: 1}: 144, {Base: 2, Dots: 2, Tuplet: 1}: 168,
	{Base: 4, Dots: 0, Tuplet: 1}: 48, {Base: 4, Dots: 1, Tuplet: 1}: 72, {Base: 4, Dots: 2, Tuplet: 1}: 84,
	{Base: 8, Dots: 0, Tuplet: 1}: 24, {Base: 8, Dots: 1, Tuplet: 1}: 36, {Base: 8, Dots: 2, Tuplet: 1}: 42,
	{Base: 16, Dots: 0, Tuplet: 1}: 12, {Base: 16, Dots: 1, Tuplet: 1}: 18, {Base: 16, Dots: 2, Tuplet: 1}: 21,
	{Base: 1, Dots: 0, Tuplet: 3}: 128, {Base: 1, Dots: 1, Tuplet: 3}: 192, {Base: 1, Dots: 2, Tuplet: 3}: 224,
	{Base: 2, Dots: 0, Tuplet: 3}: 64, {Base: 2, Dots: 1, Tuplet: 3}: 96, {Base: 2, Dots: 2, Tuplet: 3}: 112,
	{Base: 4, Dots: 0, Tuplet: 3}: 32, {Base: 4, Dots: 1, Tuplet: 3}: 48, {Base: 4, Dots: 2, Tuplet: 3}: 56,
	{Base: 8, Dots: 0, Tuplet: 3}: 16, {Base: 8, Dots: 1, Tuplet: 3}: 24, {Base: 8, Dots: 2, Tuplet: 3}: 28,
	{Base: 16, Dots: 0, Tuplet: 3}: 8, {Base: 16, Dots: 1, Tuplet: 3}: 12, {Base: 16, Dots: 2, Tuplet: 3}: 14,
}

// unmadeTicks are all the numbers of ticks in 1..MaxTicks that no values make together.
var unmadeTicks = []int{1, 2, 3, 4, 5, 6, 7, 9, 10, 11, 13, 15, 17, 19, 23, 25, 27, 31}

// badValues are invalid: each has at least one field outside of its limits.
func badValues() []impl.Value {
	var list []impl.Value
	for base := -34; base <= 70; base++ {
		for dots := -4; dots <= 6; dots++ {
			for tuplet := -4; tuplet <= 8; tuplet++ {
				v := impl.Value{Base: base, Dots: dots, Tuplet: tuplet}
				if _, ok := valueTicks[v]; !ok {
					list = append(list, v)
				}
			}
		}
	}
	for _, far := range append([]int{-192, -100, 96, 100, 128, 192, 256, 384, 1 << 33}, farNumbers...) {
		for v := range valueTicks {
			list = append(list,
				impl.Value{Base: far, Dots: v.Dots, Tuplet: v.Tuplet},
				impl.Value{Base: v.Base, Dots: far, Tuplet: v.Tuplet},
				impl.Value{Base: v.Base, Dots: v.Dots, Tuplet: far})
		}
		list = append(list, impl.Value{Base: far, Dots: far, Tuplet: far})
	}
	return list
}

// badTicks are numbers that neither a value has nor values make together.
func badTicks() []int {
	list := []int{0, 769, 770, 776, 864, 960, 1 << 16}
	for distance := 1; distance <= 800; distance++ {
		list = append(list, -distance, 768+distance, math.MinInt+distance, math.MaxInt-distance)
	}
	for v := range valueTicks {
		list = append(list, 1<<32+valueTicks[v], -1<<32+valueTicks[v])
	}
	return append(list, farNumbers...)
}

// lengthsDown returns the different numbers of ticks that values have, the greatest first.
func lengthsDown() []int {
	var lengths []int
	for _, ticks := range valueTicks {
		lengths = append(lengths, ticks)
	}
	slices.Sort(lengths)
	lengths = slices.Compact(lengths)
	slices.Reverse(lengths)
	return lengths
}

// searchTied looks through all lists of so many lengths, the greater ones first, and returns the first that makes a number of ticks; nil if there is none.
func searchTied(lengths []int, ticks int, count int) []int {
	if count == 0 {
		return nil
	}
	for i, length := range lengths {
		if count == 1 && length == ticks {
			return []int{length}
		}
		// With a first one too small for its share, no list of values down from it is large enough.
		if length*count < ticks {
			return nil
		}
		if length >= ticks {
			continue
		}
		if rest := searchTied(lengths[i:], ticks-length, count-1); rest != nil {
			return append([]int{length}, rest...)
		}
	}
	return nil
}

// expectedTied is the shortest list that makes a number of ticks, found by trying all of them; nil if there is none.
func expectedTied(ticks int) []int {
	lengths := lengthsDown()
	for count := 1; count <= ticks/8; count++ {
		if tied := searchTied(lengths, ticks, count); tied != nil {
			return tied
		}
	}
	return nil
}

func sumOf(numbers []int) int {
	sum := 0
	for _, number := range numbers {
		sum += number
	}
	return sum
}

func TestP28ValuesHaveBases(t *testing.T) {
	if impl.WholeTicks != 192 || impl.MaxTicks != 768 || len(valueTicks) != 30 {
		t.Fatal(impl.WholeTicks, impl.MaxTicks, len(valueTicks))
	}
	for _, base := range []int{1, 2, 4, 8, 16} {
		for dots := 0; dots <= 2; dots++ {
			for _, tuplet := range []int{1, 3} {
				if v := (impl.Value{Base: base, Dots: dots, Tuplet: tuplet}); !impl.ValueValid(v) {
					t.Fatal(v)
				}
			}
		}
	}
}

func TestP28OtherValuesAreInvalid(t *testing.T) {
	for _, v := range badValues() {
		if impl.ValueValid(v) {
			t.Fatal(v)
		}
	}
	for v := range valueTicks {
		for _, bad := range []impl.Value{
			{Base: v.Base, Dots: 3, Tuplet: v.Tuplet},
			{Base: v.Base, Dots: -1, Tuplet: v.Tuplet},
			{Base: 3, Dots: v.Dots, Tuplet: v.Tuplet},
			{Base: 0, Dots: v.Dots, Tuplet: v.Tuplet},
			{Base: 32, Dots: v.Dots, Tuplet: v.Tuplet},
			{Base: -v.Base, Dots: v.Dots, Tuplet: v.Tuplet},
			{Base: v.Base, Dots: v.Dots, Tuplet: 0},
			{Base: v.Base, Dots: v.Dots, Tuplet: 2},
			{Base: v.Base, Dots: v.Dots, Tuplet: -v.Tuplet},
			{},
		} {
			if impl.ValueValid(bad) {
				t.Fatal(bad)
			}
		}
	}
}

func TestP29ValuesHaveTheWrittenTicks(t *testing.T) {
	for v, want := range valueTicks {
		if ticks := impl.TicksOf(v); ticks != want {
			t.Fatal(v, ticks, want)
		}
	}
}

func TestP29TwoWithTwiceTheBaseHaveAsMany(t *testing.T) {
	for v := range valueTicks {
		half := v
		half.Base *= 2
		if v.Base < 16 && 2*impl.TicksOf(half) != impl.TicksOf(v) {
			t.Fatal(v, impl.TicksOf(v), impl.TicksOf(half))
		}
	}
}

func TestP29ThreeOfATupletHaveAsManyAsTwo(t *testing.T) {
	for v := range valueTicks {
		if v.Tuplet != 1 {
			continue
		}
		part := v
		part.Tuplet = 3
		if 3*impl.TicksOf(part) != 2*impl.TicksOf(v) {
			t.Fatal(v, impl.TicksOf(v), impl.TicksOf(part))
		}
	}
}

func TestP29DotsAddHalfOfTheLastOne(t *testing.T) {
	for v := range valueTicks {
		plain, dotted, twice := v, v, v
		plain.Dots, dotted.Dots, twice.Dots = 0, 1, 2
		more := impl.TicksOf(dotted) - impl.TicksOf(plain)
		if 2*more != impl.TicksOf(plain) || 2*(impl.TicksOf(twice)-impl.TicksOf(dotted)) != more {
			t.Fatal(v, impl.TicksOf(plain), impl.TicksOf(dotted), impl.TicksOf(twice))
		}
	}
}

func TestP29OtherValuesHaveNoTicks(t *testing.T) {
	for _, v := range badValues() {
		if ticks := impl.TicksOf(v); ticks != -1 {
			t.Fatal(v, ticks)
		}
	}
}

func TestP30FoundValuesHaveTheTicks(t *testing.T) {
	for ticks := 1; ticks <= 1000; ticks++ {
		v, ok := impl.ValueOf(ticks)
		if ok != slices.Contains(lengthsDown(), ticks) {
			t.Fatal(ticks, v, ok)
		}
		if !ok {
			if v != (impl.Value{}) {
				t.Fatal(ticks, v)
			}
			continue
		}
		if valueTicks[v] != ticks || impl.TicksOf(v) != ticks || !impl.ValueValid(v) {
			t.Fatal(ticks, v)
		}
	}
}

func TestP30TupletsAreFoundLast(t *testing.T) {
	tuplets := 0
	for ticks := 1; ticks <= 768; ticks++ {
		v, ok := impl.ValueOf(ticks)
		if !ok || v.Tuplet == 1 {
			continue
		}
		tuplets++
		for other, has := range valueTicks {
			if has == ticks && other.Tuplet == 1 {
				t.Fatal(ticks, v, other)
			}
		}
	}
	if tuplets != 10 {
		t.Fatal(tuplets)
	}
}

func TestP30FoundValuesComeFirstInOrder(t *testing.T) {
	for v, ticks := range valueTicks {
		found, ok := impl.ValueOf(ticks)
		if !ok {
			t.Fatal(v, ticks)
		}
		order := []int{found.Tuplet, found.Dots, found.Base}
		if slices.Compare(order, []int{v.Tuplet, v.Dots, v.Base}) > 0 {
			t.Fatal(ticks, found, v)
		}
	}
}

func TestP30ValuesByTicks(t *testing.T) {
	cases := []struct {
		ticks int
		value impl.Value
		ok    bool
	}{
		{8, impl.Value{Base: 16, Tuplet: 3}, true},
		{12, impl.Value{Base: 16, Tuplet: 1}, true}, // as many as one of a tuplet with a dot
		{14, impl.Value{Base: 16, Dots: 2, Tuplet: 3}, true},
		{16, impl.Value{Base: 8, Tuplet: 3}, true},
		{18, impl.Value{Base: 16, Dots: 1, Tuplet: 1}, true},
		{21, impl.Value{Base: 16, Dots: 2, Tuplet: 1}, true},
		{24, impl.Value{Base: 8, Tuplet: 1}, true}, // the same
		{48, impl.Value{Base: 4, Tuplet: 1}, true}, // the same
		{72, impl.Value{Base: 4, Dots: 1, Tuplet: 1}, true},
		{96, impl.Value{Base: 2, Tuplet: 1}, true},  // the same
		{192, impl.Value{Base: 1, Tuplet: 1}, true}, // the same
		{128, impl.Value{Base: 1, Tuplet: 3}, true},
		{224, impl.Value{Base: 1, Dots: 2, Tuplet: 3}, true},
		{288, impl.Value{Base: 1, Dots: 1, Tuplet: 1}, true},
		{336, impl.Value{Base: 1, Dots: 2, Tuplet: 1}, true},
		{1, impl.Value{}, false},
		{6, impl.Value{}, false},
		{7, impl.Value{}, false},
		{10, impl.Value{}, false},
		{20, impl.Value{}, false}, // made by two values, but that of none
		{50, impl.Value{}, false},
		{335, impl.Value{}, false},
		{384, impl.Value{}, false},
		{768, impl.Value{}, false},
	}
	for _, c := range cases {
		if v, ok := impl.ValueOf(c.ticks); v != c.value || ok != c.ok {
			t.Fatal(c, v, ok)
		}
	}
}

func TestP30OtherNumbersHaveNoValue(t *testing.T) {
	for _, ticks := range badTicks() {
		if v, ok := impl.ValueOf(ticks); ok || v != (impl.Value{}) {
			t.Fatal(ticks, v, ok)
		}
	}
}

func TestP31TiedValuesMakeTheTicks(t *testing.T) {
	for ticks := 1; ticks <= 768; ticks++ {
		tied := impl.TiedTicks(ticks)
		if slices.Contains(unmadeTicks, ticks) {
			if len(tied) != 0 {
				t.Fatal(ticks, tied)
			}
			continue
		}
		if len(tied) == 0 || sumOf(tied) != ticks {
			t.Fatal(ticks, tied)
		}
		for _, part := range tied {
			if v, ok := impl.ValueOf(part); !ok || valueTicks[v] != part {
				t.Fatal(ticks, tied, part)
			}
		}
	}
}

func TestP31ValuesStandAlone(t *testing.T) {
	for v, ticks := range valueTicks {
		if tied := impl.TiedTicks(ticks); !slices.Equal(tied, []int{ticks}) {
			t.Fatal(v, ticks, tied)
		}
	}
}

func TestP31NoShorterListAndNoGreaterOne(t *testing.T) {
	for ticks := 1; ticks <= 768; ticks++ {
		if tied, want := impl.TiedTicks(ticks), expectedTied(ticks); !slices.Equal(tied, want) {
			t.Fatal(ticks, tied, want)
		}
	}
}

func TestP31TiedTicksByNumber(t *testing.T) {
	cases := []struct {
		ticks int
		tied  []int
	}{
		{1, nil},
		{7, nil},
		{8, []int{8}},
		{9, nil},
		{20, []int{12, 8}},
		{26, []int{18, 8}}, // as short as 14 12
		{31, nil},
		{32, []int{32}},
		{39, []int{21, 18}},
		{40, []int{32, 8}}, // the greatest below 40 is 36, but 4 is made by none
		{41, []int{21, 12, 8}},
		{60, []int{48, 12}},  // as short as 42 18, 36 24 and 32 28
		{100, []int{84, 16}}, // with 96 at first 4 would be left
		{216, []int{192, 24}},
		{240, []int{224, 16}}, // as short as 192 48
		{384, []int{336, 48}}, // as short as 192 192
		{475, []int{336, 96, 21, 14, 8}},
		{500, []int{336, 128, 36}},
		{576, []int{288, 288}}, // with 336 at first there would be three
		{600, []int{336, 192, 72}},
		{672, []int{336, 336}},
		{700, []int{336, 336, 28}},
		{766, []int{336, 288, 128, 14}}, // with 336 twice there would be five
		{767, []int{336, 336, 56, 21, 18}},
		{768, []int{336, 336, 96}}, // as short as 288 288 192
		{769, nil},
	}
	for _, c := range cases {
		if tied := impl.TiedTicks(c.ticks); !slices.Equal(tied, c.tied) {
			t.Fatal(c, tied)
		}
	}
}

func TestP31OtherNumbersAreNotTied(t *testing.T) {
	for _, ticks := range badTicks() {
		if tied := impl.TiedTicks(ticks); len(tied) != 0 {
			t.Fatal(ticks, tied)
		}
	}
}

func TestP31TiedTicksAreNewMemory(t *testing.T) {
	for ticks := 1; ticks <= 768; ticks++ {
		tied := impl.TiedTicks(ticks)
		want := slices.Clone(tied)
		whole := tied[:cap(tied)]
		for i := range whole {
			whole[i] = -1
		}
		if again := impl.TiedTicks(ticks); !slices.Equal(again, want) {
			t.Fatal(ticks, again, want)
		}
	}
}

func TestP120TiesAreFew(t *testing.T) {
	for ticks := 1; ticks <= 768-192; ticks++ {
		few, more := impl.TiedTicks(ticks), impl.TiedTicks(ticks+192)
		if len(few) == 0 {
			continue
		}
		if len(more) == 0 || len(more) > len(few)+1 {
			t.Fatal(ticks, few, more)
		}
	}
}

func TestP120CountsOfTies(t *testing.T) {
	counts := map[int]int{}
	for ticks := 1; ticks <= 768; ticks++ {
		counts[len(impl.TiedTicks(ticks))]++
	}
	for count, want := range []int{18, 25, 149, 293, 228, 55} {
		if counts[count] != want {
			t.Fatal(count, counts)
		}
	}
}

func TestP120AWholeNoteMoreByNumber(t *testing.T) {
	cases := []struct{ ticks, few, more int }{
		{8, 1, 2},
		{24, 1, 2},
		{144, 1, 1}, // 336 is a value itself
		{192, 1, 2},
		{336, 1, 2},
		{384, 2, 2}, // 576 is twice 288
		{475, 5, 5},
		{576, 2, 3}, // up to MaxTicks
	}
	for _, c := range cases {
		few, more := len(impl.TiedTicks(c.ticks)), len(impl.TiedTicks(c.ticks+192))
		if few != c.few || more != c.more {
			t.Fatal(c, few, more)
		}
	}
}
